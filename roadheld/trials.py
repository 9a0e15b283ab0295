"""A protocol tried among others, as it is and as it is mended: whether it stands."""

from roadheld.dealing import Posted
from roadheld.deeds import all_steps, dealt_step
from roadheld.errors import BadName
from roadheld.forms import is_row
from roadheld.handed import checked_post, checked_protocols
from roadheld.lookups import Ruled
from roadheld.mending import as_mend, mend_steps, mended_ways
from roadheld.solving import Solver
from roadheld.tracing import Traced


def first_honest(post):
    """The first two agents of none of whom the adversary has a key; None if there are no two."""
    known = {whose: True for _, whose in post.keyring()}
    honest = [agent for agent in post.agents() if agent not in known]
    return (honest[0], honest[1]) if len(honest) > 1 else None


def first_lost(post):
    """The first agent of whom the adversary has both keys."""
    keys = post.keyring()
    return [whose for kind, whose in keys if kind == "cipher" and ("seal", whose) in keys][0]


class Trial:
    """A protocol among others, on a post; of it there are plain steps, as they are and as they are mended."""

    def __init__(self, post, protocols, name):
        self.post = checked_post(post)
        self.table = all_steps(checked_protocols(protocols))
        if not isinstance(name, str) or name not in self.table:
            raise BadName(name)
        self.called = name
        self.steps = self.table[name]
        self.pair = first_honest(post)
        # What is made when it is asked for: rules in numbers, of all agents and of few, and rules that are looked up.
        self.whole = None
        self.few = None
        self.ruled = None

    def among(self, steps):
        """The steps of all protocols by their names, this one having some steps."""
        table = {name: its for name, its in self.table.items()}
        table[self.called] = steps
        return table

    def begun(self, steps):
        """The layers of what a begin by the first two honest agents makes."""
        _, puts = dealt_step(steps[0], self.pair[0], self.pair[1])
        return puts

    def has_few(self):
        """Whether there are no agents but two honest ones and a lost one."""
        return len(self.post.agents()) == 3

    def posted(self):
        """The rules of the post."""
        if self.whole is None:
            self.whole = Posted(self.post.agents(), self.post.keyring())
        return self.whole

    def posted_few(self):
        """The rules of a post of the first two honest agents, and a lost one.

        Whatever other agents do a lost one can do as well, so there need be no others to see whether something stands.
        """
        if self.has_few():
            return self.posted()
        if self.few is None:
            lost = first_lost(self.post)
            self.few = Posted(sorted([self.pair[0], self.pair[1], lost]), [("cipher", lost), ("seal", lost)])
        return self.few

    def ruled_with(self, steps):
        """The rules of the post to be looked up, the protocol having some steps."""
        if self.ruled is None:
            self.ruled = Ruled(self.post.agents(), self.post.keyring(), self.table)
        self.ruled.deal(self.among(steps))
        return self.ruled

    def coded_for(self, posted, steps):
        """Rules, the protocol having some steps, and what a begin by the first two honest agents makes, in numbers."""
        coded = posted.coded_with(self.among(steps))
        return (coded, coded.code_row(self.begun(steps)))

    def traced_for(self, posted, steps):
        """What is solved of how that comes bare by such rules, and what the begin makes."""
        coded, row = self.coded_for(posted, steps)
        return (Traced(coded, None, [row]), row)

    def stands(self, steps):
        """Whether the protocol stands, having some steps."""
        if self.pair is None:
            return True
        coded, row = self.coded_for(self.posted_few(), steps)
        return Solver(coded, None, [row]).least_number() is None


def next_lots(lots, seen, layers):
    """The lots that count of one mend more than some that do, ascending as these are, each with the steps it makes.

    A lot that counts has beginnings that count. What steps were made is noted.
    """
    told = []
    for lot, steps in lots:
        for mend, made in mended_ways(steps, layers):
            if made not in seen:
                seen[made] = True
                told.append((lot + [mend], made))
    return told


def counting_lots(steps, layers, many):
    """All lots that count of at most many mends of plain steps, each with the steps it makes."""
    seen = {steps: True}
    lots = [([], steps)]
    told = list(lots)
    while lots and many > 0:
        lots = next_lots(lots, seen, layers)
        told.extend(lots)
        many -= 1
    return told


def is_number_of(thing, number):
    """Whether any object is a number."""
    return isinstance(thing, int) and thing == number and thing is not True and thing is not False


def is_mend_of(thing, mend):
    """Whether any object is a plain mend, lists for tuples, too."""
    if not isinstance(thing, tuple) and not isinstance(thing, list) or len(thing) != 4:
        return False
    word, index, place, last = thing
    if not isinstance(word, str) or word != mend[0]:
        return False
    if not is_number_of(index, mend[1]) or not is_number_of(place, mend[2]):
        return False
    if word == "shift":
        return is_number_of(last, mend[3])
    if not isinstance(last, tuple) and not isinstance(last, list) or len(last) != 2:
        return False
    kind, whose = mend[3]
    return isinstance(last[0], str) and last[0] == kind and is_number_of(last[1], whose)


def is_lot_of(thing, lot):
    """Whether any object is a plain lot, lists for tuples, too."""
    if not is_row(thing) or len(thing) != len(lot):
        return False
    for part, mend in zip(thing, lot):
        if not is_mend_of(part, mend):
            return False
    return True


def as_lot(steps, thing):
    """A list of mends of plain steps, one behind another, as a plain copy; None for anything else."""
    if not isinstance(thing, list) and not isinstance(thing, tuple):
        return None
    lot = []
    for part in thing:
        mend = as_mend(steps, part)
        steps = None if mend is None else mend_steps(steps, mend)
        if steps is None:
            return None
        lot.append(mend)
    return lot

"""A protocol tried among others, as it is and as it is mended: whether it stands."""

from roadheld.agents import Post
from roadheld.deeds import all_steps, dealt_step
from roadheld.errors import BadName
from roadheld.fallings import comes_bare
from roadheld.handed import checked_post, checked_protocols
from roadheld.mending import as_mend, mend_steps, mended_ways
from roadheld.protocols import Proto


def first_honest(post):
    """The first two agents of none of whom the adversary has a key; None if there are no two."""
    known = {whose: True for _, whose in post.keyring()}
    honest = [agent for agent in post.agents() if agent not in known]
    return (honest[0], honest[1]) if len(honest) > 1 else None


def first_lost(post):
    """The first agent of whom the adversary has both keys."""
    keys = post.keyring()
    return [whose for kind, whose in keys if kind == "cipher" and ("seal", whose) in keys][0]


class Trial:
    """A protocol among others, on a post; of it there are plain steps, as they are and as they are mended."""

    def __init__(self, post, protocols, name):
        self.post = checked_post(post)
        self.protocols = checked_protocols(protocols)
        table = all_steps(self.protocols)
        if not isinstance(name, str) or name not in table:
            raise BadName(name)
        self.called = name
        self.steps = table[name]
        self.pair = first_honest(post)

    def among(self, steps):
        """The protocols, this one having some steps."""
        mine = Proto(self.called, steps)
        return [mine if protocol.name() == self.called else protocol for protocol in self.protocols]

    def begun(self, steps):
        """The layers of what a begin by the first two honest agents makes."""
        _, puts = dealt_step(steps[0], self.pair[0], self.pair[1])
        return puts

    def stands(self, steps):
        """Whether the protocol stands, having some steps.

        Whatever other agents do a lost one can do as well, so there need be no others.
        """
        if self.pair is None:
            return True
        lost = first_lost(self.post)
        post = Post([self.pair[0], self.pair[1], lost], [("cipher", lost), ("seal", lost)])
        return not comes_bare(post, self.among(steps), [self.begun(steps)])


def next_lots(lots, seen, layers):
    """The lots that count of one mend more than some that do, ascending as these are, each with the steps it makes.

    A lot that counts has beginnings that count. What steps were made is noted.
    """
    told = []
    for lot, steps in lots:
        for mend, made in mended_ways(steps, layers):
            if made not in seen:
                seen[made] = True
                told.append((lot + [mend], made))
    return told


def counting_lots(steps, layers, many):
    """All lots that count of at most many mends of plain steps, each with the steps it makes."""
    seen = {steps: True}
    lots = [([], steps)]
    told = list(lots)
    while lots and many > 0:
        lots = next_lots(lots, seen, layers)
        told.extend(lots)
        many -= 1
    return told


def as_lot(steps, thing):
    """A list of mends of plain steps, one behind another, as a plain copy; None for anything else."""
    if not isinstance(thing, list) and not isinstance(thing, tuple):
        return None
    lot = []
    for part in thing:
        mend = as_mend(steps, part)
        steps = None if mend is None else mend_steps(steps, mend)
        if steps is None:
            return None
        lot.append(mend)
    return lot

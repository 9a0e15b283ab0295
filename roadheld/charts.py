"""Charts: the least lots of keys that break a question, and the greatest ones that stand, each with an answer."""

from roadheld.agents import Post
from roadheld.forms import is_pair, is_row
from roadheld.handed import checked_question
from roadheld.lookups import ruled_by
from roadheld.lots import Lots, checked_keys
from roadheld.rules import rules_of
from roadheld.settling import as_answer, settled


def rules_with(post, protocols, lot):
    """The rules when the adversary has the keys of a plain lot, too."""
    return rules_of(Post(post.agents(), post.keyring() + lot), protocols)


def chart(post, protocols, messages, keys):
    """The least lots that break, and the greatest ones that stand, each with its answer."""
    held = checked_question(post, protocols, messages)
    lots = Lots(post, protocols, held, checked_keys(post, keys))
    broken = [(lot, settled(rules_with(post, protocols, lot), held)) for lot in lots.least()]
    standing = [(lot, settled(rules_with(post, protocols, lot), held)) for lot in lots.greatest()]
    return (broken, standing)


def as_ascending_lot(thing, keys):
    """An ascending list of some of plain keys; None for anything else."""
    if not is_row(thing) or not all([is_pair(key) for key in thing]):
        return None
    lot = []
    for kind, whose in thing:
        if not isinstance(kind, str) or not isinstance(whose, str) or (kind, whose) not in keys:
            return None
        if lot and (kind, whose) <= lot[-1]:
            return None
        lot.append((kind, whose))
    return lot


def as_answered_lots(thing, keys):
    """A list of pairs of a lot and any object; None for anything else."""
    if not is_row(thing):
        return None
    pairs = []
    for pair in thing:
        lot = as_ascending_lot(pair[0], keys) if is_pair(pair) else None
        if lot is None:
            return None
        pairs.append((lot, pair[1]))
    return pairs


class Judging:
    """A question whose answers with lots of keys are judged."""

    def __init__(self, post, protocols, messages):
        self.keyring = post.keyring()
        self.messages = messages
        # What the answers of all agents take and put is made once, for all lots.
        self.ruled = ruled_by(post, protocols)

    def first_unanswered(self, pairs, word):
        """The index of the first pair whose answer is none of this word that is right; None if all are."""
        for index, (lot, thing) in enumerate(pairs):
            self.ruled.hold(sorted(self.keyring + lot))
            answer = as_answer(self.ruled, self.messages, thing)
            if answer is None or answer[0] != word:
                return index
        return None


def told_of(lot, broken, standing):
    """Whether what breaks, or what stands, tells of a lot, lots being integers."""
    for other in broken:
        if other & lot == other:
            return True
    for other in standing:
        if other & lot == lot:
            return True
    return False


def first_open(keys, broken, standing):
    """The first lot, by how many keys it has, of which neither what breaks nor what stands tells; None if none."""
    places = {key: 1 << at for at, key in enumerate(keys)}
    broken_lots = [sum([places[key] for key in lot]) for lot, _ in broken]
    standing_lots = [sum([places[key] for key in lot]) for lot, _ in standing]
    left = [lot for lot in range(1 << len(keys)) if not told_of(lot, broken_lots, standing_lots)]
    rows = [[key for key in keys if lot & places[key]] for lot in left]
    return min([(len(row), row) for row in rows])[1] if rows else None


def judged_chart(post, protocols, messages, keys, thing):
    """What is wrong with any object as a chart, None if nothing is."""
    held = checked_question(post, protocols, messages)
    plain = sorted(checked_keys(post, keys))
    if not is_pair(thing):
        return ("form",)
    broken = as_answered_lots(thing[0], plain)
    standing = as_answered_lots(thing[1], plain)
    if broken is None or standing is None:
        return ("form",)
    judging = Judging(post, list(protocols), held)
    wrong = judging.first_unanswered(broken, "bare")
    if wrong is not None:
        return ("bare", wrong)
    wrong = judging.first_unanswered(standing, "safe")
    if wrong is not None:
        return ("safe", wrong)
    lot = first_open(plain, broken, standing)
    return None if lot is None else ("lot", lot)

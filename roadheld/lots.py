"""Lots of keys that are given away: with which of them a question breaks."""

from roadheld.errors import BadKeys
from roadheld.families import Families
from roadheld.forms import as_keys
from roadheld.meetings import told_lots
from roadheld.rules import rules_of


def as_asked_keys(post, keys):
    """Unlike keys of agents of a post that the adversary has not, each as a tuple; None for anything else."""
    plain = as_keys(keys, post.agents())
    held = post.keyring()
    return None if plain is None or any([key in held for key in plain]) else plain


def checked_keys(post, keys):
    """The keys that are asked, each as a tuple."""
    plain = as_asked_keys(post, keys)
    if plain is None:
        raise BadKeys(keys)
    return plain


def families_of(many):
    """For each of many keys the family of the lots that have it; a lot is an integer, its bits the keys."""
    families = [0 for _ in range(many)]
    for lot in range(1 << many):
        for at in range(many):
            if lot >> at & 1:
                families[at] |= 1 << lot
    return families


def rule_of_key(key):
    """What the adversary can do with a key."""
    return ([], [key], None) if key[0] == "seal" else ([key], [], None)


class Lots:
    """All lots of some keys, ascending, with which of them one of plain messages comes bare."""

    def __init__(self, post, protocols, messages, keys):
        self.keys_asked = sorted(keys)
        self.many = len(keys)
        every = (1 << (1 << self.many)) - 1
        rules = rules_of(post, protocols)
        families = [every for _ in rules] + families_of(self.many)
        solved = Families(rules + [rule_of_key(key) for key in self.keys_asked], families, every)
        self.breaking = 0
        for layers, _ in messages:
            self.breaking |= solved.family_down(layers)

    def breaks(self, lot):
        """Whether a lot breaks the question."""
        return self.breaking >> lot & 1 == 1

    def all_breaking(self):
        """All lots that break."""
        return told_lots([lot for lot in range(1 << self.many) if self.breaks(lot)], self.keys_asked)

    def is_least(self, lot):
        """Whether a lot breaks, and does not without any one of its keys."""
        if not self.breaks(lot):
            return False
        return not any([lot >> at & 1 and self.breaks(lot - (1 << at)) for at in range(self.many)])

    def is_greatest(self, lot):
        """Whether a lot stands, and does not with any other key."""
        return not self.breaks(lot) and all([lot >> at & 1 or self.breaks(lot + (1 << at)) for at in range(self.many)])

    def least(self):
        """The least lots that break."""
        return told_lots([lot for lot in range(1 << self.many) if self.is_least(lot)], self.keys_asked)

    def greatest(self):
        """The greatest lots that stand."""
        return told_lots([lot for lot in range(1 << self.many) if self.is_greatest(lot)], self.keys_asked)

    def turned_by(self, key):
        """How many lots stand that break with a key."""
        bit = 1 << self.keys_asked.index(key)
        return len([lot for lot in range(1 << self.many) if not self.breaks(lot) and self.breaks(lot | bit)])

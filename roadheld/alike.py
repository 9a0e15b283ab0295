"""Whether machines take the same, whether rules hold the same, and by what they are parted."""

from roadheld.coding import Coded
from roadheld.forms import as_messages, is_number
from roadheld.growth import grow_rows
from roadheld.handed import checked_messages, coded_of
from roadheld.leasts import least
from roadheld.machines import checked_machine, checked_pair
from roadheld.partings import parting
from roadheld.refusals import BadBesides, BadLong, BadOthers


def least_machine(machine):
    """The determined machine of the fewest states that takes the same."""
    return least(checked_machine(machine))


def only_of(machine, other):
    """The shortest, then first ascending, layers that machine takes and other does not; None if there are none."""
    mine, its = checked_pair(machine, other)
    found = parting(least(mine), least(its), True)
    return None if found is None else found[1]


def parting_layers(machine, other):
    """The shortest, then first ascending, layers that just one takes, behind 0 if it is machine, else behind 1."""
    mine, its = checked_pair(machine, other)
    return parting(least(mine), least(its), False)


def taken_counts(machine, long):
    """How many lists of 0, 1, .. and long layers a machine takes."""
    plain = checked_machine(machine)
    if not is_number(long):
        raise BadLong(long)
    _, _, rows, ends = least(plain)
    goings = {}
    for state, _, other in rows:
        going = goings.setdefault(state, {})
        going[other] = going.get(other, 0) + 1
    told = []
    counts = {0: 1}
    for _ in range(long + 1):
        told.append(sum([counts.get(state, 0) for state in ends]))
        further = {}
        for state, many in counts.items():
            for other, times in goings.get(state, {}).items():
                further[other] = further.get(other, 0) + many * times
        counts = further
    return told


def rules_parted(rules, messages, others, besides):
    """The shortest, then first ascending, layers that come by just one of two lots of rules; None if there are none."""
    coded = coded_of(rules)
    held = checked_messages(messages, None)
    other_coded = Coded()
    wrong = other_coded.note_all(others)
    if wrong is not None:
        raise BadOthers(wrong)
    its = as_messages(besides, None)
    if its is None:
        raise BadBesides(besides)
    return parting(least(grow_rows(coded, held)), least(grow_rows(other_coded, its)), False)

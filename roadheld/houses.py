"""Protocols parted into houses, in each of which there are other keys."""

from roadheld.askings import are_within, chart_lots
from roadheld.fallings import Fallings, by_name, checked_together
from roadheld.forms import is_pair, is_row
from roadheld.lookups import ruled_by
from roadheld.papers import is_ruled_paper
from roadheld.protocollots import as_names, named
from roadheld.rules import first_messages
from roadheld.walks import as_machine


def lasts(lot, greatest):
    """Whether a lot is within one of the greatest that last."""
    return any([are_within(lot, other) for other in greatest])


def housings(many, greatest):
    """All ways to part many things into lots that last, each a list of lots, the least thing of each lot ascending."""
    told = [[]]
    for at in range(many):
        further = []
        for lots in told:
            for place in range(len(lots)):
                lot = lots[place] | 1 << at
                if lasts(lot, greatest):
                    further.append(lots[:place] + [lot] + lots[place + 1:])
            if lasts(1 << at, greatest):
                further.append(lots + [1 << at])
        told = further
    return told


def fewest_houses(post, protocols, zero, one):
    """The first housing of the fewest houses; None if a protocol falls alone."""
    plain = by_name(checked_together(post, protocols, zero, one))
    fallings = Fallings(post, plain, [], zero, one)
    _, greatest = chart_lots(fallings, len(plain))
    found = housings(len(plain), greatest)
    if not found:
        return None
    least = min([len(lots) for lots in found])
    return min([[fallings.names(lot) for lot in lots] for lots in found if len(lots) == least])


def as_houses(thing, protocols):
    """A list of pairs of a list of unlike names of protocols, one at least, and any object; None for anything else."""
    if not is_row(thing):
        return None
    houses = []
    for pair in thing:
        names = as_names(pair[0], protocols) if is_pair(pair) else None
        if not names:
            return None
        houses.append((names, pair[1]))
    return houses


def is_paper_of(post, protocols, zero, one, thing):
    """Whether any object is a paper of the messages that begins of protocols make, by the rules of these."""
    machine = as_machine(thing)
    if machine is None:
        return False
    messages = first_messages(post, protocols, zero, one, 0)
    return is_ruled_paper(ruled_by(post, protocols), messages, machine)


def judged_houses(post, protocols, zero, one, thing):
    """What is wrong with any object as houses, each with its paper; None if nothing is."""
    plain = checked_together(post, protocols, zero, one)
    houses = as_houses(thing, plain)
    if houses is None:
        return ("form",)
    listed = [name for names, _ in houses for name in names]
    wrong = [protocol.name() for protocol in plain if listed.count(protocol.name()) != 1]
    if wrong:
        return ("name", min(wrong))
    for index, (names, paper) in enumerate(houses):
        if not is_paper_of(post, named(plain, names), zero, one, paper):
            return ("paper", index)
    return None

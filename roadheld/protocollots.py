"""Which lots of protocols fall together: least ones that do, greatest ones that do not, with keys given away, too."""

from roadheld.askings import chart_lots
from roadheld.errors import BadName
from roadheld.fallings import Fallings, by_name, checked_together, fall_together
from roadheld.forms import are_unlike, is_row
from roadheld.handed import checked_protocols
from roadheld.lots import checked_keys
from roadheld.moves import as_attack
from roadheld.refusals import BadAttack, BadNames


def as_names(thing, protocols):
    """A list of unlike names of protocols, as a new list; None for anything else."""
    names = [protocol.name() for protocol in protocols]
    if not is_row(thing) or not all([isinstance(name, str) and name in names for name in thing]):
        return None
    return list(thing) if are_unlike(thing) else None


def named(protocols, names):
    """Those of protocols that have one of some names."""
    return [protocol for protocol in protocols if protocol.name() in names]


def falls(post, protocols, zero, one, names):
    """Whether a message that begins of named protocols make comes bare with these alone."""
    plain = checked_together(post, protocols, zero, one)
    asked = as_names(names, plain)
    if asked is None:
        raise BadNames(names)
    return fall_together(post, named(plain, asked), zero, one)


def least_falling(post, protocols, zero, one):
    """The lists of names that fall, while without any one of them each lasts."""
    plain = by_name(checked_together(post, protocols, zero, one))
    fallings = Fallings(post, plain, [], zero, one)
    least, _ = chart_lots(fallings, len(plain))
    return sorted([fallings.names(lot) for lot in least])


def greatest_lasting(post, protocols, zero, one):
    """The lists of names that last, while with any other one each falls."""
    plain = by_name(checked_together(post, protocols, zero, one))
    fallings = Fallings(post, plain, [], zero, one)
    _, greatest = chart_lots(fallings, len(plain))
    return sorted([fallings.names(lot) for lot in greatest])


def used_protocols(protocols, attack, begun):
    """The names of the protocols that an attack uses, that of its message's begin among them."""
    names = [protocol.name() for protocol in checked_protocols(protocols)]
    plain = as_attack(attack)
    used = [] if plain is None else [move[1] for move in plain[1] if move[0] == "answer"]
    if plain is None or not all([name in names for name in used]):
        raise BadAttack(attack)
    if not isinstance(begun, str) or begun not in names:
        raise BadName(begun)
    return sorted({name: True for name in used + [begun]})


def least_mixed(post, protocols, zero, one, keys):
    """The pairs of names and keys with which they fall, while they do not without any one of names or keys."""
    plain = by_name(checked_together(post, protocols, zero, one))
    asked = sorted(checked_keys(post, keys))
    fallings = Fallings(post, plain, asked, zero, one)
    least, _ = chart_lots(fallings, len(plain) + len(asked))
    return sorted([(fallings.names(lot), fallings.given(lot)) for lot in least])


def first_falling(post, protocols, zero, one):
    """The least number of protocols, from the first one on, that fall together; None if all last."""
    plain = checked_together(post, protocols, zero, one)
    for number in range(1, len(plain) + 1):
        if fall_together(post, plain[:number], zero, one):
            return number
    return None

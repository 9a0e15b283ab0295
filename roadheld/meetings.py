"""Lists that meet all of some lots, and least and greatest lists found with few askings."""

from roadheld.askings import chart_lots, meeting_more
from roadheld.errors import BadKeys
from roadheld.forms import are_unlike, is_row
from roadheld.refusals import BadLots


def as_key(thing):
    """A text, or a tuple of texts; None for anything else."""
    if isinstance(thing, str):
        return thing
    if is_row(thing) and all([isinstance(text, str) for text in thing]):
        return tuple(thing)
    return None


def are_of_one_kind(keys):
    """Whether of plain keys all are texts, or all are tuples."""
    return len({isinstance(key, str): True for key in keys}) < 2


def as_plain_keys(thing):
    """A list of unlike texts, or of unlike tuples of texts; None for anything else."""
    if not is_row(thing):
        return None
    keys = [as_key(part) for part in thing]
    if None in keys or not are_of_one_kind(keys) or not are_unlike(keys):
        return None
    return keys


def checked_plain_keys(keys):
    """Keys, ascending."""
    plain = as_plain_keys(keys)
    if plain is None:
        raise BadKeys(keys)
    return sorted(plain)


def as_lot(thing, places):
    """A list of unlike keys, each of which has a place, as an integer, its bits their places; None for others."""
    keys = as_plain_keys(thing)
    if keys is None or not all([key in places for key in keys]):
        return None
    return sum([1 << places[key] for key in keys])


def told_lots(lots, keys):
    """Lots as ascending lists of keys, ascending."""
    return sorted([[key for at, key in enumerate(keys) if lot >> at & 1] for lot in lots])


def meeting(keys, lots):
    """The lists of keys that have one at least of each of lots, while without any one of its keys none does."""
    plain = checked_plain_keys(keys)
    places = {key: at for at, key in enumerate(plain)}
    asked = [as_lot(lot, places) for lot in lots] if is_row(lots) else [None]
    if None in asked:
        raise BadLots(lots)
    meetings = [0]
    for lot in asked:
        meetings = meeting_more(meetings, lot, len(plain))
    return told_lots(meetings, plain)


class Asking:
    """A function that tells of lists of keys, asked of each one once at most."""

    def __init__(self, ask, keys):
        self.ask = ask
        self.all_keys = keys
        self.known = {}

    def holds(self, lot):
        """Whether the function tells True of a lot."""
        if lot not in self.known:
            ask = self.ask
            self.known[lot] = bool(ask([key for at, key in enumerate(self.all_keys) if lot >> at & 1]))
        return self.known[lot]


def charted(ask, keys):
    """The least lists for which a function tells True, and the greatest ones for which it tells False."""
    plain = checked_plain_keys(keys)
    least, greatest = chart_lots(Asking(ask, plain), len(plain))
    return (told_lots(least, plain), told_lots(greatest, plain))

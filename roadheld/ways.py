"""Ways: attacks of however many moves, told by the rows of a book."""

from roadheld.bookrows import are_right_rows, as_book, as_indexes, go_through
from roadheld.errors import BadBegin, BadMany, BadMoment, BadWay
from roadheld.forms import is_number, is_pair
from roadheld.handed import checked_layers, checked_rules
from roadheld.lookups import Listed
from roadheld.unrolling import Unrolling


def as_way(rules, layers, thing):
    """A way of plain layers by plain rules as a plain copy; None for any object that is none."""
    if not is_pair(thing):
        return None
    book = as_book(thing[0])
    used = None if book is None else as_indexes(thing[1], len(book))
    if used is None or not go_through(book, used, layers, ()) or not are_right_rows(Listed(rules), book):
        return None
    return (book, used)


def is_way(rules, layers, thing):
    """Whether any object is a way."""
    plain = checked_rules(rules)
    return as_way(plain, checked_layers(layers), thing) is not None


def unrolling_of(rules, layers, way):
    """A way, to be gone through."""
    plain = checked_rules(rules)
    row = checked_layers(layers)
    its = as_way(plain, row, way)
    if its is None:
        raise BadWay(way)
    return Unrolling(plain, row, its)


def number_of(rules, layers, way):
    """How many moves a way has."""
    return unrolling_of(rules, layers, way).number()


def moves_of(rules, layers, way, begin, many):
    """The moves of a way from the begin-th on, many or as many as there are."""
    unrolling = unrolling_of(rules, layers, way)
    if not is_number(begin):
        raise BadBegin(begin)
    if not is_number(many):
        raise BadMany(many)
    return unrolling.moves_from(begin, many)


def layers_at(rules, layers, way, moment):
    """What so many moves of a way leave."""
    unrolling = unrolling_of(rules, layers, way)
    if not is_number(moment) or moment > unrolling.number():
        raise BadMoment(moment)
    return unrolling.laid_at(moment)


def highest(rules, layers, way):
    """The greatest number of layers that lie there, and the least number of moves behind which so many do."""
    return unrolling_of(rules, layers, way).highest()


def way_offs(rules, layers, way):
    """For each of layers how many moves of a way there are up to the one that takes it."""
    return unrolling_of(rules, layers, way).offs()

"""Costs: how many deeds by counted rules layers need to come down, and how many deeds in all with so few."""

from roadheld.bookrows import right_book, written
from roadheld.errors import BadBook
from roadheld.handed import checked_row, coded_of, known_rules
from roadheld.refusals import BadCounted
from roadheld.tracing import Traced

# By how many bits costs stand above deeds in numbers at first.
SCALE = 64


def checked_counted(counted, many):
    """A list of unlike indexes of many rules, as keys of a dict."""
    if not isinstance(counted, list) and not isinstance(counted, tuple):
        raise BadCounted(counted)
    marked = {}
    for index in counted:
        if not isinstance(index, int) or index is True or index is False or not 0 <= index < many or index in marked:
            raise BadCounted(counted)
        marked[index] = True
    return marked


def weighed(coded, many, marked, row):
    """What is solved with numbers in which costs stand above deeds, and by how many bits.

    As long as the deeds of all that is settled are so few that those of a whole row of drops have room, numbers
    compare as pairs do. If they are not, it is done again with more room.
    """
    scale = SCALE
    while True:
        weights = [1 << scale | 1 if rule in marked else 1 for rule in range(many)]
        traced = Traced(coded, weights, [row])
        deeds = (1 << scale) - 1
        most = deeds // (len(row) + 3)
        if all([number & deeds < most for number in traced.numbers.values()]):
            return (traced, scale)
        scale *= 2


def cost(rules, counted, layers):
    """The least cost with which layers come down, and the fewest deeds with this cost; None if they never do."""
    coded = coded_of(rules)
    marked = checked_counted(counted, len(rules))
    row = checked_row(coded, layers)
    traced, scale = weighed(coded, len(rules), marked, row)
    number = traced.solver.least_number()
    return None if number is None else (number >> scale, number & (1 << scale) - 1)


def costs(rules, counted, book):
    """The cost of each row of a book of the rules."""
    known = {}
    plain = known_rules(rules, known)
    marked = checked_counted(counted, len(plain))
    rows = right_book(plain, known, book)
    if rows is None:
        raise BadBook(book)
    told = []
    for _, rule, used in rows:
        told.append((1 if rule in marked else 0) + sum([told[index] for index in used]))
    return told


def cheap_book(rules, counted, layers):
    """A book, and the indexes of its rows by which layers come down with the least cost; None if they never do."""
    coded = coded_of(rules)
    marked = checked_counted(counted, len(rules))
    row = checked_row(coded, layers)
    traced, _ = weighed(coded, len(rules), marked, row)
    return None if traced.solver.least_number() is None else written(traced, traced.drops_down(row))

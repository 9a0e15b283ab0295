"""Books: rows by which anybody sees that drops are there, and by how many deeds."""

from roadheld.bookrows import as_book, as_known_drop, counts_of, right_book, written
from roadheld.errors import BadBook, BadDrop
from roadheld.handed import checked_row, coded_of, known_rules
from roadheld.tracing import Traced


def is_book(rules, thing):
    """Whether any object is a book of rules."""
    known = {}
    return right_book(known_rules(rules, known), known, thing) is not None


def counts(book):
    """How many deeds each row of a book counts."""
    plain = as_book(book)
    if plain is None:
        raise BadBook(book)
    return counts_of(plain)


def book_of(rules, drop):
    """A book whose last row is for a drop, each row counting as few deeds as can be; None if there is no such drop."""
    coded = coded_of(rules)
    asked = as_known_drop(drop, coded.known)
    if asked is None:
        raise BadDrop(drop)
    traced = Traced(coded, None, None)
    key = traced.drop_of(asked)
    return written(traced, [key])[0] if key in traced.numbers else None


def book_down(rules, layers):
    """A book, and the indexes of its rows by which layers come down by the fewest deeds; None if they never do."""
    coded = coded_of(rules)
    row = checked_row(coded, layers)
    traced = Traced(coded, None, [row])
    return None if traced.solver.least_number() is None else written(traced, traced.drops_down(row))

"""Prices: what drops cost at least, told by lists that anybody can judge."""

from roadheld.bookrows import written
from roadheld.costs import checked_counted, weighed
from roadheld.errors import BadLayers
from roadheld.forms import as_known_layers
from roadheld.handed import checked_most, checked_row, coded_of, known_rules
from roadheld.pricelists import Priced
from roadheld.refusals import BadPrices
from roadheld.tracing import Traced


def checked_prices(prices, known):
    """A price list of any layers; agents that are known need not be looked at."""
    listed = Priced(known)
    if not listed.note_all(prices, True):
        raise BadPrices(prices)
    return listed


def first_dear(rules, counted, prices):
    """The least drop that lacks or is too dear in a price list; None if it holds."""
    known = {}
    plain = known_rules(rules, known)
    marked = checked_counted(counted, len(plain))
    return checked_prices(prices, known).first_wrong(plain, marked)


def is_price_list(rules, counted, thing):
    """Whether any object is a price list that holds."""
    known = {}
    plain = known_rules(rules, known)
    marked = checked_counted(counted, len(plain))
    listed = Priced(known)
    return listed.note_all(thing, True) and listed.holds(plain, marked)


def least_sum(prices, layers):
    """The least sum of prices of drops of a price list through layers; None if there are none."""
    listed = checked_prices(prices, {})
    row = as_known_layers(layers, listed.known, True)
    if row is None:
        raise BadLayers(layers)
    return listed.least_through(row)


def all_prices(coded, weights, most):
    """The costs of all drops, none above most, as a price list that holds."""
    return [(drop, min(number, most)) for drop, number in Traced(coded, weights, None).all_drops()]


def within(rules, counted, layers, most):
    """A book by which layers come down with a cost of at most most, or prices by which they do not."""
    coded = coded_of(rules)
    marked = checked_counted(counted, len(rules))
    row = checked_row(coded, layers)
    checked_most(most)
    traced, scale = weighed(coded, len(rules), marked, row)
    number = traced.solver.least_number()
    if number is not None and number >> scale <= most:
        book, used = written(traced, traced.drops_down(row))
        return ("within", book, used)
    weights = [1 if rule in marked else 0 for rule in range(len(rules))]
    return ("beyond", all_prices(coded, weights, most + 1))

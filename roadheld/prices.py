"""Prices: what drops cost at least, told by lists that anybody can judge."""

from roadheld.bookrows import as_drop, written
from roadheld.costs import checked_counted, weighed
from roadheld.errors import BadLayers
from roadheld.forms import as_layers, is_number, is_pair, is_row
from roadheld.handed import checked_most, checked_row, checked_rules, coded_of
from roadheld.refusals import BadPrices
from roadheld.rules import controls_of
from roadheld.tracing import Traced


def as_prices(thing):
    """A list of pairs of a drop, unlike ones, and a number, as a dict; None for anything else."""
    if not is_row(thing):
        return None
    prices = {}
    for pair in thing:
        drop = as_drop(pair[0]) if is_pair(pair) else None
        if drop is None or drop in prices or not is_number(pair[1]):
            return None
        prices[drop] = pair[1]
    return prices


def checked_prices(prices):
    """A price list of any layers, as a dict."""
    plain = as_prices(prices)
    if plain is None:
        raise BadPrices(prices)
    return plain


def prices_by_slot(prices):
    """For each control and layer the pairs of a control to which a drop of a price list goes, and its price."""
    slots = {}
    for (control, layer, behind), price in prices.items():
        slots.setdefault((control, layer), []).append((behind, price))
    return slots


def sums_through(slots, layers):
    """The least sums of prices of drops through layers, from nothing held back, by the controls at which they end."""
    ways = {(): 0}
    for layer in layers:
        further = {}
        for control, ahead in ways.items():
            for behind, price in slots.get((control, layer), []):
                if behind not in further or ahead + price < further[behind]:
                    further[behind] = ahead + price
        ways = further
    return ways


def bounds(rules, marked, prices):
    """For each drop that has to be by what is in a price list the most that it may cost, marked rules being counted."""
    slots = prices_by_slot(prices)
    most = {}
    for control in controls_of(rules):
        if control:
            most[(control[:-1], control[-1], control)] = 0
    free = {}
    for index, (takes, puts, _) in enumerate(rules):
        weight = 1 if index in marked else 0
        for behind, total in sums_through(slots, puts).items():
            total += weight
            if takes:
                drop = (tuple(takes[:-1]), takes[-1], behind)
                most[drop] = min(total, most.get(drop, total))
            else:
                free[behind] = min(total, free.get(behind, total))
    for (control, layer, behind), price in prices.items():
        if control in free:
            drop = ((), layer, behind)
            most[drop] = min(free[control] + price, most.get(drop, free[control] + price))
    return most


def least_dear(rules, marked, prices):
    """The least drop that a price list lacks, or in which it is too dear; None if it holds."""
    most = bounds(rules, marked, prices)
    wrong = [drop for drop, price in most.items() if drop not in prices or prices[drop] > price]
    return min(wrong) if wrong else None


def first_dear(rules, counted, prices):
    """The least drop that lacks or is too dear in a price list; None if it holds."""
    plain = checked_rules(rules)
    marked = checked_counted(counted, len(plain))
    return least_dear(plain, marked, checked_prices(prices))


def is_price_list(rules, counted, thing):
    """Whether any object is a price list that holds."""
    plain = checked_rules(rules)
    marked = checked_counted(counted, len(plain))
    prices = as_prices(thing)
    return prices is not None and least_dear(plain, marked, prices) is None


def least_sum(prices, layers):
    """The least sum of prices of drops of a price list through layers; None if there are none."""
    plain = checked_prices(prices)
    row = as_layers(layers, None)
    if row is None:
        raise BadLayers(layers)
    return sums_through(prices_by_slot(plain), row).get(())


def all_prices(coded, weights, most):
    """The costs of all drops, none above most, as a price list that holds."""
    return [(drop, min(number, most)) for drop, number in Traced(coded, weights, None).all_drops()]


def within(rules, counted, layers, most):
    """A book by which layers come down with a cost of at most most, or prices by which they do not."""
    coded = coded_of(rules)
    marked = checked_counted(counted, len(rules))
    row = checked_row(coded, layers)
    checked_most(most)
    traced, scale = weighed(coded, len(rules), marked, row)
    number = traced.solver.least_number()
    if number is not None and number >> scale <= most:
        book, used = written(traced, traced.drops_down(row))
        return ("within", book, used)
    weights = [1 if rule in marked else 0 for rule in range(len(rules))]
    return ("beyond", all_prices(coded, weights, most + 1))

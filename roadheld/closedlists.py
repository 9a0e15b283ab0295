"""Closed lists of drops: by them anybody sees that a drop is not there."""

from roadheld.bookrows import as_drop, as_drops, written
from roadheld.errors import BadDrop, BadDrops
from roadheld.handed import checked_rules, coded_of
from roadheld.rules import controls_of
from roadheld.tracing import Traced


def ends_by_slot(drops):
    """For each control and layer of plain drops the controls to which drops of the layer go."""
    ends = {}
    for control, layer, behind in drops:
        ends.setdefault((control, layer), []).append(behind)
    return ends


def ends_through(ends, layers):
    """The controls to which drops go through layers, from nothing held back, as keys of a dict."""
    reached = {(): True}
    for layer in layers:
        reached = {behind: True for control in reached for behind in ends.get((control, layer), [])}
    return reached


def has_to_be(rules, drops):
    """The drops that have to be in a closed list by the plain drops that are in it."""
    due = [(control[:-1], control[-1], control) for control in controls_of(rules) if control]
    ends = ends_by_slot(drops)
    drops_from = {}
    for control, layer, behind in drops:
        drops_from.setdefault(control, []).append((layer, behind))
    freely = {}
    for takes, puts, _ in rules:
        reached = ends_through(ends, puts)
        if takes:
            due.extend([(tuple(takes[:-1]), takes[-1], behind) for behind in reached])
        else:
            freely.update(reached)
    for control in freely:
        due.extend([((), layer, behind) for layer, behind in drops_from.get(control, [])])
    return due


def least_lacking(rules, drops):
    """The least drop that plain drops lack, None if they are closed."""
    listed = {drop: True for drop in drops}
    missing = [drop for drop in has_to_be(rules, drops) if drop not in listed]
    return min(missing) if missing else None


def lacking(rules, drops):
    """The least drop that a list of drops lacks to be closed, None if it is closed."""
    plain = checked_rules(rules)
    listed = as_drops(drops)
    if listed is None:
        raise BadDrops(drops)
    return least_lacking(plain, listed)


def is_closed(rules, thing):
    """Whether any object is a closed list of drops."""
    plain = checked_rules(rules)
    listed = as_drops(thing)
    return listed is not None and least_lacking(plain, listed) is None


def shown(rules, drop):
    """A book for a drop, or a closed list without it."""
    coded = coded_of(rules)
    asked = as_drop(drop)
    if asked is None:
        raise BadDrop(drop)
    traced = Traced(coded, None, None)
    key = traced.drop_of(asked)
    if key in traced.numbers:
        return ("book", written(traced, [key])[0])
    return ("closed", [told for told, _ in traced.all_drops()])

"""Drops: how layers go off, by how few deeds."""

from roadheld.handed import checked_row, coded_of
from roadheld.layerwise import is_layerwise, number_layerwise
from roadheld.solving import Solver
from roadheld.tracing import Traced


def all_drops(rules):
    """The pairs of all drops that there are and their numbers, ascending."""
    return Traced(coded_of(rules), None, None).all_drops()


def down(rules, layers):
    """The fewest deeds by which layers come down, None if they never do."""
    coded = coded_of(rules)
    row = checked_row(coded, layers)
    if is_layerwise(coded):
        return number_layerwise(coded, row)
    return Solver(coded, None, [row]).least_number()

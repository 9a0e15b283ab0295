"""Drops: how layers go off, by how few deeds."""

from roadheld.handed import checked_layers, checked_rules
from roadheld.solving import Solver
from roadheld.tracing import Traced


def all_drops(rules):
    """The pairs of all drops that there are and their numbers, ascending."""
    return Traced(checked_rules(rules), None, None).all_drops()


def down(rules, layers):
    """The fewest deeds by which layers come down, None if they never do."""
    plain = checked_rules(rules)
    row = checked_layers(layers)
    return Solver(plain, None, [row]).least_number()

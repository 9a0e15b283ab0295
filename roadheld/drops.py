"""Drops: how layers go off, by how few deeds."""

from roadheld.handed import checked_layers, checked_rules
from roadheld.solving import Solver


def all_drops(rules):
    """The pairs of all drops that there are and their numbers, ascending."""
    solver = Solver(checked_rules(rules))
    return [(solver.coded.told_drop(drop), number) for drop, number in solver.all_numbers()]


def down(rules, layers):
    """The fewest deeds by which layers come down, None if they never do."""
    plain = checked_rules(rules)
    row = checked_layers(layers)
    found = Solver(plain).down(row)
    return None if found is None else found[0]

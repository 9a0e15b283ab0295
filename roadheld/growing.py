"""Machines of all that can be held."""

from roadheld.growth import grow, machine_of_rows
from roadheld.handed import checked_messages, checked_rules, coded_of
from roadheld.machines import checked_machine


def grown(rules, machine):
    """A machine that keeps each of rules and takes just the layers that come of what machine takes."""
    coded = coded_of(rules)
    return grow(coded, checked_machine(machine))


def machine_of(messages):
    """A machine that takes just the layers of messages."""
    return machine_of_rows([layers for layers, _ in checked_messages(messages, None)])


def turned(rules):
    """The rules with what they take and what they put exchanged."""
    return [(puts, takes, third) for takes, puts, third in checked_rules(rules)]

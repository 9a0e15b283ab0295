"""Runs: rules done one behind another on layers, what lies there behind each, and when each layer goes off."""

from roadheld.handed import checked_layers, checked_rules
from roadheld.running import checked_moves, first_wrong


def is_run(rules, layers, thing):
    """Whether any object is a run of rules from layers."""
    plain = checked_rules(rules)
    return first_wrong(plain, checked_layers(layers), thing) is None


def laid_by(rules, layers, moves):
    """What lies there at first and behind each move of a run."""
    plain = checked_rules(rules)
    row = checked_layers(layers)
    laid = [row]
    for rule in checked_moves(plain, row, moves):
        takes, puts, _ = plain[rule]
        laid.append(puts + laid[-1][len(takes):])
    return laid


def offs(rules, layers, moves):
    """For each of layers how many moves of a run there are up to the one that takes it; None if none does."""
    plain = checked_rules(rules)
    row = checked_layers(layers)
    run = checked_moves(plain, row, moves)
    told = []
    above = 0
    for at, rule in enumerate(run):
        takes, puts, _ = plain[rule]
        # What is taken is first what moves have put on.
        told.extend([at + 1 for _ in range(len(takes) - above)])
        above = max(above - len(takes), 0) + len(puts)
    return told + [None for _ in range(len(row) - len(told))]

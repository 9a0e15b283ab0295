"""Attacks tightened: stretches of moves left out that are of no use."""

from roadheld.handed import checked_layers, checked_rules
from roadheld.running import checked_attack, walked


def is_attack(rules, layers, moves):
    """Whether plain rules, done by right indexes one behind another, leave nothing of plain layers."""
    at, left = walked(rules, layers, moves)
    return at == len(moves) and not left


def first_stretch(rules, layers, moves):
    """The stretch of an attack that can be left out with the least begin, the greatest one of these; None if none."""
    laid = layers
    for begin, rule in enumerate(moves):
        for end in range(len(moves), begin, -1):
            if is_attack(rules, laid, moves[end:]):
                return (begin, end)
        takes, puts, _ = rules[rule]
        laid = puts + laid[len(takes):]
    return None


def loose_stretch(rules, layers, moves):
    """The first stretch of an attack that can be left out; None if there is none."""
    plain = checked_rules(rules)
    row = checked_layers(layers)
    return first_stretch(plain, row, checked_attack(plain, row, moves))


def tightened(rules, layers, moves):
    """What is left of an attack when stretches are left out as long as there are such."""
    plain = checked_rules(rules)
    row = checked_layers(layers)
    left = checked_attack(plain, row, moves)
    stretch = first_stretch(plain, row, left)
    while stretch is not None:
        left = left[:stretch[0]] + left[stretch[1]:]
        stretch = first_stretch(plain, row, left)
    return left

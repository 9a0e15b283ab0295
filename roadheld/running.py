"""Lists of moves, the indexes of plain rules, gone through one behind another on layers."""

from roadheld.errors import BadMoves
from roadheld.forms import begins_with, is_below, is_row


def walked(rules, layers, moves):
    """How far plain rules can be done from plain layers by the indexes of a list, and what lies there then.

    Told are the index of the first move that is none, as many as there are if all are done, and the layers.
    """
    # The top one stands last here, so that little is moved when it goes off.
    laid = layers[::-1]
    for at, rule in enumerate(moves):
        if not is_below(rule, len(rules)):
            return (at, laid[::-1])
        takes, puts, _ = rules[rule]
        if takes:
            if not begins_with(laid[:-len(takes) - 1:-1], takes):
                return (at, laid[::-1])
            del laid[-len(takes):]
        laid.extend(puts[::-1])
    return (len(moves), laid[::-1])


def first_wrong(rules, layers, moves):
    """The index at which any object is no run of plain rules from plain layers, 0 for no list; None if it is one."""
    if not is_row(moves):
        return 0
    at, _ = walked(rules, layers, moves)
    return None if at == len(moves) else at


def checked_moves(rules, layers, moves):
    """A run of plain rules from plain layers, as a new list."""
    wrong = first_wrong(rules, layers, moves)
    if wrong is not None:
        raise BadMoves(wrong)
    return list(moves)


def checked_attack(rules, layers, moves):
    """A run that leaves nothing, as a new list."""
    run = checked_moves(rules, layers, moves)
    _, left = walked(rules, layers, run)
    if left:
        raise BadMoves(len(run))
    return run

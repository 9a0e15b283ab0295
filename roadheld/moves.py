"""Moves and attacks by their form, of whatever protocols."""

from roadheld.forms import as_layer, is_agent, is_number, is_pair, is_row


def as_move(thing):
    """A move of any agents, one on both sides too, as a tuple; None for anything else."""
    if not is_row(thing) or len(thing) == 0 or not isinstance(thing[0], str):
        return None
    if thing[0] in ("put", "take") and len(thing) == 2:
        layer = as_layer(thing[1], None)
        return None if layer is None else (thing[0], layer)
    if thing[0] != "answer" or len(thing) != 5 or not is_number(thing[4]):
        return None
    return tuple(thing) if all([is_agent(name) for name in thing[1:4]]) else None


def as_attack(thing):
    """A pair of a number and a list of moves of any agents, of whatever protocols; None for anything else."""
    if not is_pair(thing) or not is_number(thing[0]) or not is_row(thing[1]):
        return None
    moves = [as_move(move) for move in thing[1]]
    return None if None in moves else (thing[0], moves)

"""Mends of the plain steps of a protocol: which there are, and what comes of one."""

from roadheld.forms import as_part_layers, is_below, is_row


def room(steps, index):
    """How many layers a step puts on, and the next one takes, at least; of the last one, how many it puts on."""
    many = len(steps[index][2])
    return many if index + 1 == len(steps) else min(many, len(steps[index + 1][1]))


def as_mend(steps, thing):
    """A mend of plain steps by its form, as a tuple; None for anything else."""
    if not is_row(thing) or len(thing) != 4 or not isinstance(thing[0], str) or not is_below(thing[1], len(steps)):
        return None
    word, index, place, last = thing
    many = room(steps, index)
    if word == "add" and is_below(place, many + 1):
        layers = as_part_layers((last,))
        return None if layers is None else ("add", index, place, layers[0])
    if word == "shift" and is_below(place, many) and is_below(last, many) and place != last:
        return ("shift", index, place, last)
    return None


def changed(layers, mend):
    """What comes of plain layers by a mend."""
    word, _, place, last = mend
    if word == "add":
        return layers[:place] + (last,) + layers[place:]
    left = layers[:place] + layers[place + 1:]
    return left[:last] + (layers[place],) + left[last:]


def mend_steps(steps, mend):
    """What comes of plain steps by a plain mend of them; None if this is no protocol's."""
    word, index, _, last = mend
    part, takes, puts = steps[index]
    if word == "add" and last == ("seal", 1 - part):
        return None
    mended = ((part, takes, changed(puts, mend)),)
    if index + 1 < len(steps):
        part, takes, puts = steps[index + 1]
        if word == "add" and last == ("cipher", 1 - part):
            return None
        mended += ((part, changed(takes, mend), puts),)
    return steps[:index] + mended + steps[index + 2:]


def possible_mends(steps, layers):
    """All mends of plain steps, adds of some plain layers and shifts, ascending."""
    ascending = sorted(layers)
    adds = []
    shifts = []
    for index in range(len(steps)):
        many = room(steps, index)
        adds.extend([("add", index, place, layer) for place in range(many + 1) for layer in ascending])
        shifts.extend([("shift", index, place, to) for place in range(many) for to in range(many) if to != place])
    return adds + shifts


def mended_ways(steps, layers):
    """The mends of plain steps that make unlike protocols, none of them this one, each with the steps it makes."""
    ways = {steps: None}
    for mend in possible_mends(steps, layers):
        made = mend_steps(steps, mend)
        if made is not None:
            ways.setdefault(made, mend)
    return [(mend, made) for made, mend in ways.items() if mend is not None]

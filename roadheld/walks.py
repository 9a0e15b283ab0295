"""Machines by their form, and where their rows lead."""

from roadheld.forms import as_layer, is_below, is_number, is_row


def are_ascending(things):
    """Whether of some things that compare each is less than the next one."""
    return all([things[at] < things[at + 1] for at in range(len(things) - 1)])


def as_states(thing, many):
    """An ascending list of states below many, as a list; None for anything else."""
    if not is_row(thing) or not all([is_below(state, many) for state in thing]):
        return None
    return list(thing) if are_ascending(thing) else None


def as_row(thing, many):
    """A row of a machine as a tuple; None for anything else."""
    if not is_row(thing) or len(thing) != 3:
        return None
    layer = as_layer(thing[1], None)
    if layer is None or not is_below(thing[0], many) or not is_below(thing[2], many):
        return None
    return (thing[0], layer, thing[2])


def as_machine(thing):
    """A machine as a tuple, its lists as lists; None for anything else."""
    if not is_row(thing) or len(thing) != 4 or not is_number(thing[0]) or thing[0] == 0:
        return None
    many = thing[0]
    firsts = as_states(thing[1], many)
    ends = as_states(thing[3], many)
    if firsts is None or ends is None or not is_row(thing[2]):
        return None
    rows = [as_row(row, many) for row in thing[2]]
    if None in rows or not are_ascending(rows):
        return None
    return (many, firsts, rows, ends)


def goings_of(rows):
    """For each state and layer of some rows the states to which they go."""
    goings = {}
    for state, layer, other in rows:
        goings.setdefault((state, layer), []).append(other)
    return goings


def led(goings, states, layers):
    """The ascending list of the states to which rows lead from some states along layers."""
    reached = list(states)
    for layer in layers:
        further = {}
        for state in reached:
            for other in goings.get((state, layer), []):
                further[other] = True
        reached = list(further)
    return sorted(reached)


def spread(states, nexts):
    """All states that come of some states by nexts, a dict of lists of states, these themselves among them."""
    found = {state: True for state in states}
    left = list(states)
    while left:
        state = left.pop()
        for other in nexts.get(state, []):
            if other not in found:
                found[other] = True
                left.append(other)
    return found


def prune(machine):
    """A plain machine without the states that stand on no way from a first to an end."""
    _, firsts, rows, ends = machine
    onward = {}
    back = {}
    for state, _, other in rows:
        onward.setdefault(state, []).append(other)
        back.setdefault(other, []).append(state)
    come_to = spread(firsts, onward)
    come_from = spread(ends, back)
    kept = [state for state in sorted(come_to) if state in come_from]
    if not kept:
        return (1, [], [], [])
    places = {state: at for at, state in enumerate(kept)}
    left = [(places[s], layer, places[t]) for s, layer, t in rows if s in places and t in places]
    return (len(kept), [places[s] for s in firsts if s in places], left, [places[s] for s in ends if s in places])

"""Machines by their form, and where their rows lead."""

from roadheld.forms import OWNED, WORDS, is_agents_text, is_row

# For how few layers it is less to go through all rows at each layer than to sort them by their layers first.
FEW = 5


def are_ascending(things):
    """Whether of some things that compare each is less than the next one."""
    return all([things[at] < things[at + 1] for at in range(len(things) - 1)])


def as_states(thing, many):
    """An ascending list of states below many, as a list; None for anything else."""
    if not isinstance(thing, list) and not isinstance(thing, tuple):
        return None
    last = -1
    for state in thing:
        if not isinstance(state, int) or state is True or state is False or not last < state < many:
            return None
        last = state
    return list(thing)


def as_rows(thing, many):
    """Ascending rows of a machine of many states, each as a tuple; None for anything else.

    Layers are looked at here as as_known_layers does it, since this is done for each row of each machine.
    """
    if not isinstance(thing, list) and not isinstance(thing, tuple):
        return None
    rows = []
    known = {}
    last = ()
    for row in thing:
        if not isinstance(row, tuple) and not isinstance(row, list) or len(row) != 3:
            return None
        state, layer, other = row
        if not isinstance(layer, tuple) and not isinstance(layer, list) or len(layer) != 2:
            return None
        kind, whose = layer
        if not isinstance(kind, str) or not isinstance(state, int) or not isinstance(other, int):
            return None
        if kind == "word":
            if not isinstance(whose, int) or whose is True or whose is False or not 0 <= whose < WORDS:
                return None
        elif not isinstance(whose, str) or kind not in OWNED:
            return None
        elif whose not in known:
            if not is_agents_text(whose):
                return None
            known[whose] = True
        if not many > state >= 0 <= other < many or state is True or state is False or other is True or other is False:
            return None
        row = (state, (kind, whose), other)
        if row <= last:
            return None
        last = row
        rows.append(row)
    return rows


def as_row(thing, many):
    """A row of a machine as a tuple; None for anything else."""
    rows = as_rows((thing,), many)
    return None if rows is None else rows[0]


def as_machine(thing):
    """A machine as a tuple, its lists as lists; None for anything else."""
    if not is_row(thing) or len(thing) != 4:
        return None
    many, firsts, rows, ends = thing
    if not isinstance(many, int) or isinstance(many, bool) or many < 1:
        return None
    firsts = as_states(firsts, many)
    ends = as_states(ends, many)
    if firsts is None or ends is None:
        return None
    rows = as_rows(rows, many)
    return None if rows is None else (many, firsts, rows, ends)


def goings_of(rows):
    """For each layer of some rows, for each state from which they go, the states to which."""
    goings = {}
    for state, layer, other in rows:
        if layer not in goings:
            goings[layer] = {state: [other]}
        elif state in goings[layer]:
            goings[layer][state].append(other)
        else:
            goings[layer][state] = [other]
    return goings


def led(goings, states, layers):
    """The states to which rows lead from some states along layers; both as keys of dicts."""
    reached = states
    for layer in layers:
        if layer not in goings:
            return {}
        going = goings[layer]
        further = {}
        for state in reached:
            if state in going:
                for other in going[state]:
                    further[other] = True
        reached = further
    return reached


def led_once(rows, states, layers):
    """The states to which rows lead from some states along one list of layers alone; both as keys of dicts."""
    if len(layers) > FEW:
        return led(goings_of(rows), states, layers)
    reached = states
    for layer in layers:
        reached = {other: True for state, its, other in rows if state in reached and its == layer}
    return reached


def spread(states, nexts):
    """All states that come of some states by nexts, a dict of lists of states, these themselves among them."""
    found = {state: True for state in states}
    left = list(states)
    while left:
        state = left.pop()
        for other in nexts.get(state, []):
            if other not in found:
                found[other] = True
                left.append(other)
    return found


def prune(machine):
    """A plain machine without the states that stand on no way from a first to an end."""
    _, firsts, rows, ends = machine
    onward = {}
    back = {}
    for state, _, other in rows:
        onward.setdefault(state, []).append(other)
        back.setdefault(other, []).append(state)
    come_to = spread(firsts, onward)
    come_from = spread(ends, back)
    kept = [state for state in sorted(come_to) if state in come_from]
    if not kept:
        return (1, [], [], [])
    places = {state: at for at, state in enumerate(kept)}
    left = [(places[s], layer, places[t]) for s, layer, t in rows if s in places and t in places]
    return (len(kept), [places[s] for s in firsts if s in places], left, [places[s] for s in ends if s in places])

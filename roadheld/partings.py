"""What parts two least machines: the shortest layers that just one of them takes."""


def rows_of(machine):
    """For each state of a determined machine the states to which rows go, by layers."""
    goings = {}
    for state, layer, other in machine[2]:
        going = goings.setdefault(state, {})
        going[layer] = other
    return goings


def trail(aheads, at):
    """The layers by which a pair was come to."""
    layers = []
    while aheads[at] is not None:
        at, layer = aheads[at]
        layers.append(layer)
    return layers[::-1]


def parting(machine, other, alone):
    """The shortest, then first ascending, layers that just one of two determined machines takes.

    They are told behind 0 if it is the first one that takes them, else behind 1; where alone is True they are
    such that the first one takes. Pairs of states are come to in the order of the layers that lead to them;
    None stands for where a machine takes nothing any more.
    """
    goings = rows_of(machine)
    its_goings = rows_of(other)
    ends = {state: True for state in machine[3]}
    its_ends = {state: True for state in other[3]}
    order = [(0, 0)]
    found = {(0, 0): True}
    aheads = [None]
    at = 0
    while at < len(order):
        state, its = order[at]
        if (state in ends) != (its in its_ends) and not (alone and its in its_ends):
            return (0 if state in ends else 1, trail(aheads, at))
        going = goings.get(state, {})
        its_going = its_goings.get(its, {})
        besides = [] if alone else [layer for layer in its_going if layer not in going]
        for layer in sorted(list(going) + besides):
            pair = (going.get(layer), its_going.get(layer))
            if pair not in found:
                found[pair] = True
                order.append(pair)
                aheads.append((at, layer))
        at += 1
    return None

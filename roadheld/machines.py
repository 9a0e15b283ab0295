"""Machines: what they take, and how they are put together."""

from roadheld.errors import BadLayers, BadMachine, BadOther, BadStates
from roadheld.forms import as_known_layers
from roadheld.walks import as_machine, led, led_once, prune


def is_machine(thing):
    """Whether any object is a machine."""
    return as_machine(thing) is not None


def checked_machine(machine):
    """A machine, if it is one, as a plain copy."""
    plain = as_machine(machine)
    if plain is None:
        raise BadMachine(machine)
    return plain


def checked_pair(machine, other):
    """Two machines as plain copies."""
    plain = checked_machine(machine)
    its = as_machine(other)
    if its is None:
        raise BadOther(other)
    return (plain, its)


def as_unlike_states(thing, many):
    """A list of unlike states below many, as keys of a dict; None for anything else."""
    if not isinstance(thing, list) and not isinstance(thing, tuple):
        return None
    found = {}
    for state in thing:
        if not isinstance(state, int) or state is True or state is False or not 0 <= state < many or state in found:
            return None
        found[state] = True
    return found


def states_behind(machine, states, layers):
    """The states to which rows lead from some states along layers, ascending."""
    many, _, rows, _ = checked_machine(machine)
    begin = as_unlike_states(states, many)
    if begin is None:
        raise BadStates(states)
    plain = as_known_layers(layers, {}, True)
    if plain is None:
        raise BadLayers(layers)
    return sorted(led_once(rows, begin, plain))


def machine_takes(machine, goings, layers):
    """Whether a plain machine, with its goings, takes layers."""
    reached = led(goings, {state: True for state in machine[1]}, layers)
    return any([state in reached for state in machine[3]])


def is_taken(machine, layers):
    """Whether a machine takes layers."""
    _, firsts, rows, ends = checked_machine(machine)
    row = as_known_layers(layers, {}, True)
    if row is None:
        raise BadLayers(layers)
    reached = led_once(rows, {state: True for state in firsts}, row)
    return any([state in reached for state in ends])


def rows_by_state(rows):
    """For each state of some rows, for each layer by which rows go from it, the states to which; all ascending."""
    table = {}
    for state, layer, other in rows:
        table.setdefault(state, {}).setdefault(layer, []).append(other)
    return table


def paired_rows(rows, others, many):
    """The rows from pair to pair, ascending, many being how many states the other machine has."""
    mine = rows_by_state(rows)
    its = rows_by_state(others)
    paired = []
    # Gone through in this order the rows come ascending.
    for s in mine:
        for t in its:
            for layer in mine[s]:
                for u in mine[s][layer]:
                    paired.extend([(s * many + t, layer, u * many + v) for v in its[t].get(layer, [])])
    return paired


def both(machine, other):
    """The machine of pairs of states, which takes what each of two takes."""
    mine, its = checked_pair(machine, other)
    many = its[0]
    firsts = [s * many + t for s in mine[1] for t in its[1]]
    ends = [s * many + t for s in mine[3] for t in its[3]]
    return (mine[0] * many, firsts, paired_rows(mine[2], its[2], many), ends)


def either(machine, other):
    """The machine of the states of two, which takes what one of them takes."""
    mine, its = checked_pair(machine, other)
    many = mine[0]
    rows = mine[2] + [(s + many, layer, t + many) for s, layer, t in its[2]]
    return (many + its[0], mine[1] + [s + many for s in its[1]], rows, mine[3] + [s + many for s in its[3]])


def pruned(machine):
    """A machine without the states that stand on no way from a first to an end."""
    return prune(checked_machine(machine))

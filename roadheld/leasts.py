"""The least determined machine of a machine."""

from roadheld.automata import Automaton, automaton_of, betters, determined
from roadheld.walks import prune

# How many states more than the machine has a determined one may have while nothing is done to have fewer.
PLAIN_MORE = 1000


def signature(row, kinds):
    """By which layers a row of a determined machine goes to which kinds of states."""
    return tuple([(layer, kinds[row[layer]]) for layer in row])


def sorted_out(states, rows, kinds):
    """Some states by their kinds, and by their signatures."""
    groups = {}
    for state in states:
        group = groups.setdefault(kinds[state], {})
        group.setdefault(signature(rows[state], kinds), []).append(state)
    return groups


def backward(rows):
    """For each state those from which a row goes to it."""
    back = [[] for _ in rows]
    for state, row in enumerate(rows):
        for layer in row:
            back[row[layer]].append(state)
    return back


def parts_of(members, groups, states):
    """The parts of the members of a kind: the groups of those looked at again, and the others."""
    parts = list(groups.values())
    others = [state for state in members if state not in states]
    return parts + [others] if others else parts


def kinds_of(rows, ends):
    """For each state of a determined machine its kind, alike for those from which the same is taken.

    Only states from which a row goes to one whose kind was called otherwise are looked at again: of the parts
    of a kind the greatest one keeps its name, and those that were not looked at have what they had in common.
    """
    back = backward(rows)
    kinds = [1 if end else 0 for end in ends]
    members = [[state for state, end in enumerate(ends) if not end], [state for state, end in enumerate(ends) if end]]
    changed = {state: True for state in range(len(rows))}
    while changed:
        groups = sorted_out(changed, rows, kinds)
        again = {}
        for kind in groups:
            parts = parts_of(members[kind], groups[kind], changed)
            sizes = [len(part) for part in parts]
            keeper = sizes.index(max(sizes))
            members[kind] = parts[keeper]
            for part in parts[:keeper] + parts[keeper + 1:]:
                for state in part:
                    kinds[state] = len(members)
                    again.update({other: True for other in back[state]})
                members.append(part)
        changed = again
    return kinds


def least_rows(rows, ends):
    """The rows and the ends of the least determined machine, its states numbered as they are come to."""
    kinds = kinds_of(rows, ends)
    numbers = {kinds[0]: 0}
    order = [0]
    least = []
    while len(least) < len(order):
        row = rows[order[len(least)]]
        new = {}
        for layer in row:
            kind = kinds[row[layer]]
            if kind not in numbers:
                numbers[kind] = len(order)
                order.append(row[layer])
            new[layer] = numbers[kind]
        least.append(new)
    return (least, [ends[state] for state in order])


def determined_by_trying(automaton):
    """A determined machine of an automaton of which the plain one is great.

    It is made by leaving out of lots what is of no use, from the begin or, turned, from the end, with ever more
    states. What is determined, turned and determined again is least.
    """
    turned = automaton.turned()
    lots = betters(automaton)
    turned_lots = betters(turned)
    most = 2 * PLAIN_MORE
    while True:
        found = determined(automaton, lots, most)
        if found is not None:
            return found
        found = determined(turned, turned_lots, most)
        if found is not None:
            rows, ends = least_rows(found[0], found[1])
            return determined(automaton_of(rows, ends).turned(), None, None)
        most *= 2


def least(machine):
    """The least determined machine of a plain machine."""
    many, firsts, rows, ends = prune(machine)
    layers = sorted({layer: True for _, layer, _ in rows})
    places = {layer: at for at, layer in enumerate(layers)}
    goings = [{} for _ in range(many)]
    for state, layer, other in rows:
        going = goings[state]
        going[places[layer]] = going.get(places[layer], 0) | 1 << other
    automaton = Automaton(goings, sum([1 << state for state in firsts]), sum([1 << state for state in ends]))
    found = determined(automaton, None, many + PLAIN_MORE)
    if found is None:
        found = determined_by_trying(automaton)
    table, taken = least_rows(found[0], found[1])
    told = []
    for state, row in enumerate(table):
        told.extend([(state, layers[place], row[place]) for place in row])
    return (len(table), [0], told, [state for state, end in enumerate(taken) if end])

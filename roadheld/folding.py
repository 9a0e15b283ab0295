"""Machines with those states taken together from which rows go alike."""


def numbered(things):
    """For each of things a number, the same for equal ones: 0, 1, .. as they come."""
    numbers = {}
    told = []
    for thing in things:
        numbers.setdefault(thing, len(numbers))
        told.append(numbers[thing])
    return told


def kinds_behind(rows, kinds):
    """For each state its kind, told apart by the layers of its rows and the kinds of states to which they go."""
    sights = [{} for _ in kinds]
    for state, layer, other in rows:
        sights[state][(layer, kinds[other])] = True
    return numbered([(kinds[state], tuple(sorted(sight))) for state, sight in enumerate(sights)])


def fold(machine):
    """A plain machine with states taken together if all that can be done from them is alike, row by row.

    It takes the same. It keeps each rule that the machine keeps, too: where layers lead in it from a first, there
    they lead, from that same first, in the machine to one of the states taken together.
    """
    many, firsts, rows, ends = machine
    last = {state: True for state in ends}
    kinds = numbered([state in last for state in range(many)])
    further = kinds_behind(rows, kinds)
    while max(further) > max(kinds):
        kinds = further
        further = kinds_behind(rows, kinds)
    begin = {kinds[state]: True for state in firsts}
    told = {(kinds[s], layer, kinds[t]): True for s, layer, t in rows}
    return (max(kinds) + 1, sorted(begin), sorted(told), sorted({kinds[state]: True for state in ends}))

"""Machines in numbers, lots of states as the bits of an integer."""

# Of how many states an automaton may be for each to be held against each.
LIKED_MOST = 1500


def places_in(lot):
    """The places of the bits of a lot, from the highest one down."""
    places = []
    while lot:
        place = lot.bit_length() - 1
        places.append(place)
        lot -= 1 << place
    return places


def lot_of(places):
    """The lot with bits at these places, unlike ones."""
    lot = 0
    for place in places:
        lot |= 1 << place
    return lot


class Automaton:
    """A machine: for each state a dict of lots, by layers, to which rows go; the lots of firsts and of ends."""

    def __init__(self, goings, firsts, ends):
        self.goings = goings
        self.firsts = firsts
        self.ends = ends

    def onward(self, lot):
        """The lots to which rows go from some states, by layers."""
        reached = {}
        for state in places_in(lot):
            for layer, others in self.goings[state].items():
                reached[layer] = reached.get(layer, 0) | others
        return reached

    def turned(self):
        """The automaton that takes the same lists of layers, each from its end to its begin."""
        goings = [{} for _ in self.goings]
        for state, going in enumerate(self.goings):
            for layer, others in going.items():
                for other in places_in(others):
                    goings[other][layer] = goings[other].get(layer, 0) | 1 << state
        return Automaton(goings, self.ends, self.firsts)


def likes(automaton):
    """For each state the lot of those states that can do, row by row, whatever it can do, itself among them."""
    back = automaton.turned().goings
    every = (1 << len(back)) - 1
    able = [automaton.ends if automaton.ends >> state & 1 else every for state in range(len(back))]
    left = list(range(len(back)))
    waits = [True for _ in back]
    while left:
        other = left.pop()
        waits[other] = False
        for layer, states in back[other].items():
            may = 0
            for like in places_in(able[other]):
                may |= back[like].get(layer, 0)
            for state in places_in(states):
                if able[state] & may == able[state]:
                    continue
                able[state] &= may
                if not waits[state]:
                    waits[state] = True
                    left.append(state)
    return able


def betters(automaton):
    """For each state the lot of those because of which it can be left out of lots, as they can do all that it can.

    Of states that can do the same the first one stays. Of an automaton of too many states nothing is looked for.
    """
    if len(automaton.goings) > LIKED_MOST:
        return None
    able = likes(automaton)
    lots = []
    for state, lot in enumerate(able):
        better = [like for like in places_in(lot) if like < state or not able[like] >> state & 1]
        lots.append(lot_of(better))
    return lots


def without_worse(lot, lots):
    """A lot without the states that can be left out because of others in it."""
    kept = 0
    for state in places_in(lot):
        if not lot & lots[state]:
            kept |= 1 << state
    return kept


def determined(automaton, lots, most):
    """The rows, by layers, and the ends of a determined machine of an automaton in which each state is of use.

    None if it has more than most states. Where lots are handed in, those of betters, its states are fewer.
    """
    numbers = {automaton.firsts: 0}
    order = [automaton.firsts]
    rows = []
    while len(rows) < len(order):
        if most is not None and len(order) > most:
            return None
        reached = automaton.onward(order[len(rows)])
        row = {}
        for layer in sorted(reached):
            lot = reached[layer] if lots is None else without_worse(reached[layer], lots)
            if lot not in numbers:
                numbers[lot] = len(order)
                order.append(lot)
            row[layer] = numbers[lot]
        rows.append(row)
    return (rows, [lot & automaton.ends != 0 for lot in order])


def automaton_of(rows, ends):
    """The automaton of a determined machine's rows and ends."""
    goings = [{layer: 1 << row[layer] for layer in row} for row in rows]
    return Automaton(goings, 1, lot_of([state for state, end in enumerate(ends) if end]))

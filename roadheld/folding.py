"""Machines of lots of states, without what is of no use, and with those states taken together that go on alike.

A lot is an integer, its bits the states. How a state goes on is told by pairs of a layer's number and a lot.
"""

from roadheld.automata import places_in


def numbered(things):
    """For each of things a number, the same for equal ones: 0, 1, .. as they come."""
    numbers = {}
    told = []
    for thing in things:
        if thing not in numbers:
            numbers[thing] = len(numbers)
        told.append(numbers[thing])
    return told


def come_to(firsts, onward):
    """The lot of the states that are come to from firsts, onward being the lots to which rows go from each."""
    found = firsts
    left = firsts
    while left:
        state = left.bit_length() - 1
        left -= 1 << state
        new = onward[state] & ~found
        found |= new
        left |= new
    return found


def come_from(ends, onward):
    """The lot of the states from which ends are come to."""
    found = ends
    while True:
        more = found
        # States mostly lead to later ones.
        for state in range(len(onward) - 1, -1, -1):
            if onward[state] & more:
                more |= 1 << state
        if more == found:
            return found
        found = more


def kinds_in(masks, lot):
    """The lot of the kinds of some states, masks being the lots of the states of each kind."""
    return sum([1 << kind for kind, mask in enumerate(masks) if lot & mask])


def told_apart(goings, kinds):
    """The kinds of states told apart by the layers of their rows and the kinds of states to which they go.

    Told are the kinds, and by lots of states those of their kinds as they were.
    """
    masks = [0 for _ in range(max(kinds) + 1)]
    for at, kind in enumerate(kinds):
        masks[kind] |= 1 << at
    known = {}
    sights = []
    for at, going in enumerate(goings):
        sight = [(kinds[at], 0)]
        if masks[kinds[at]] != 1 << at:
            for layer, lot in going:
                if lot not in known:
                    known[lot] = kinds_in(masks, lot)
                sight.append((layer, known[lot]))
        sights.append(tuple(sight))
    return numbered(sights)


def kinds_of(goings, ends):
    """For each state its kind, the same for those from which all that can be done is alike, row by row."""
    kinds = numbered([ends >> at & 1 for at in range(len(goings))])
    while True:
        further = told_apart(goings, kinds)
        if max(further) == max(kinds):
            return kinds
        kinds = further


def fold(goings, firsts, ends, layers):
    """The plain machine of states each of which is of use, those taken together that go on alike.

    It takes the same. It keeps each rule that the states keep, too: where layers lead in it from a first, there they
    lead, from that same first, to one of the states taken together.
    """
    kinds = kinds_of(goings, ends)
    masks = [0 for _ in range(max(kinds) + 1)]
    for at, kind in enumerate(kinds):
        masks[kind] |= 1 << at
    rows = []
    known = {}
    for kind, mask in enumerate(masks):
        its = []
        for layer, lot in goings[kinds.index(kind)]:
            if lot not in known:
                known[lot] = [other for other, among in enumerate(masks) if lot & among]
            its.append((layers[layer], known[lot]))
        for layer, others in sorted(its):
            rows.extend([(kind, layer, other) for other in others])
    begin = [kind for kind, mask in enumerate(masks) if mask & firsts]
    return (len(masks), begin, rows, [kind for kind, mask in enumerate(masks) if mask & ends])


def renumbered(lot, places):
    """A lot with its states called by their places, those that have none left out."""
    return sum([1 << places[state] for state in places_in(lot) if state in places])


def folded(goings, firsts, ends, layers):
    """The plain machine of states, layers being those of the numbers, without the states that are of no use."""
    onward = []
    for going in goings:
        reached = 0
        for _, lot in going:
            reached |= lot
        onward.append(reached)
    kept = come_to(firsts, onward) & come_from(ends, onward)
    if not kept:
        return (1, [], [], [])
    places = {state: at for at, state in enumerate(places_in(kept)[::-1])}
    lots = {}
    left = []
    for state in places:
        going = []
        for layer, lot in goings[state]:
            if lot not in lots:
                lots[lot] = renumbered(lot, places)
            if lots[lot]:
                going.append((layer, lots[lot]))
        left.append(going)
    return fold(left, renumbered(firsts, places), renumbered(ends, places), layers)

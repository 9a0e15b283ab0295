"""All ways in which a program can be done: what each has taken off so far, and what it has put on of its own.

A state is a pair of tuples of layers of parts: those that were taken off a list handed in, and those that lie now on
what is left of it. So what is done on one list is done on all that begin with what was taken off.
"""

from roadheld.programforms import put_layer, taken_layer


def states_taking(states, layer):
    """The states behind a row that takes a layer off."""
    told = {}
    for taken, laid in states:
        if not laid:
            told[(taken + (layer,), ())] = True
        elif laid[0] == layer:
            told[(taken, laid[1:])] = True
    return told


class Pathways:
    """The states of a program behind its rows: of those that send, and the least lists for the places of rows."""

    def __init__(self, part, rows):
        self.part = part
        self.sent = {}
        self.least = {}
        self.go(rows, (), {((), ()): True})

    def note(self, place, states):
        """Notes for the place of a row the shortest list, the least one of these, by which states are come to."""
        if states:
            self.least[place] = min([(len(taken), taken) for taken, _ in states])[1]

    def go(self, rows, place, states):
        """The states behind all of some rows, the place being that of the list in which they stand."""
        for at, row in enumerate(rows):
            if not states:
                return states
            its = place + (at,)
            if row[0] == "send":
                self.note(its, states)
                self.sent.update(states)
                return {}
            if row[0] == "either":
                self.note(its, states)
                behind = self.go(row[1], its + (0,), states)
                further = self.go(row[2], its + (1,), states)
                states = {state: True for state in list(behind) + list(further)}
                continue
            layer = taken_layer(self.part, row)
            if layer is None:
                layer = put_layer(self.part, row)
                states = {(taken, (layer,) + laid): True for taken, laid in states}
            else:
                states = states_taking(states, layer)
            self.note(its, states)
        return states


def places_of(rows, place):
    """The places of all rows, the place being that of the list in which they stand, ascending."""
    told = []
    for at, row in enumerate(rows):
        its = place + (at,)
        told.append(its)
        if row[0] == "either":
            told.extend(places_of(row[1], its + (0,)))
            told.extend(places_of(row[2], its + (1,)))
    return told


def is_covered(taken, laid, other, its):
    """Whether who takes and puts the former does whatever is done by taking and putting the latter."""
    if other[:len(taken)] != taken or its[:len(laid)] != laid:
        return False
    return other[len(taken):] == its[len(laid):]


def uncovered(done):
    """Those of some pairs of what is taken and put that no other one covers, ascending."""
    pairs = sorted(done)
    kept = []
    for taken, laid in pairs:
        # What covers takes a beginning of what is taken, so it stands ahead.
        if not any([is_covered(other, its, taken, laid) for other, its in kept]):
            kept.append((taken, laid))
    return kept


def ways_of(program):
    """The pairs of what is taken and put by the steps of a plain program, ascending."""
    part, rows = program
    return uncovered(Pathways(part, rows).sent)

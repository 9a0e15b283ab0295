"""Pairs of states of two machines, come to by the same layers."""

from roadheld.machines import rows_by_state


class Pairs:
    """The pairs of states of two plain machines, and where rows of the same layer lead from them."""

    def __init__(self, machine, other):
        self.mine = rows_by_state(machine[2])
        self.its = rows_by_state(other[2])
        self.firsts = [(s, t) for s in machine[1] for t in other[1]]
        self.ends = {state: True for state in machine[3]}
        self.its_ends = {state: True for state in other[3]}

    def is_end(self, pair):
        """Whether both states of a pair are ends."""
        return pair[0] in self.ends and pair[1] in self.its_ends

    def ways_from(self, pair):
        """The layers, ascending, of which rows go from both states, each with the pairs to which, ascending."""
        mine = self.mine.get(pair[0], {})
        its = self.its.get(pair[1], {})
        return [(layer, [(u, v) for u in mine[layer] for v in its[layer]]) for layer in mine if layer in its]

    def levels(self):
        """The pairs come to by no layers, by one, .. that are come to by no fewer; the last ones with a pair of ends.

        If no pair of ends is come to, these are all pairs that are come to.
        """
        found = {pair: True for pair in self.firsts}
        levels = [self.firsts]
        while levels[-1] and not any([self.is_end(pair) for pair in levels[-1]]):
            level = []
            for pair in levels[-1]:
                for _, others in self.ways_from(pair):
                    for other in others:
                        if other not in found:
                            found[other] = True
                            level.append(other)
            levels.append(level)
        return levels

    def leading(self, levels):
        """Of some levels those pairs from which rows lead, level by level, to a pair of ends of the last one."""
        kept = [{pair: True for pair in levels[-1] if self.is_end(pair)}]
        for level in levels[-2::-1]:
            further = kept[-1]
            kept.append({})
            for pair in level:
                if any([other in further for _, others in self.ways_from(pair) for other in others]):
                    kept[-1][pair] = True
        return kept[::-1]

    def first_layers(self, levels):
        """The first layers, ascending, of those that lead, level by level, to a pair of ends of the last one."""
        kept = self.leading(levels)
        layers = []
        states = list(kept[0])
        for further in kept[1:]:
            ways = {}
            for pair in states:
                for layer, others in self.ways_from(pair):
                    for other in others:
                        if other in further:
                            ways.setdefault(layer, {})[other] = True
            layers.append(min(ways))
            states = list(ways[layers[-1]])
        return layers

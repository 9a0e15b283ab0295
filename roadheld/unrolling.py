"""Ways gone through without being unrolled: what happens in the runs of their rows is told from the rows.

In the run of a row (c, a, ..) the layers of c lie on a at first. If its rule takes these, what it puts is gone through
next; if it takes nothing, c being of none, what it puts and then a. These are the layers ahead of the row.
"""

from roadheld.bookrows import counts_of


class Unrolling:
    """A plain way of plain layers by plain rules."""

    def __init__(self, rules, layers, way):
        self.rules = rules
        self.layers = layers
        self.book, self.used = way
        self.counts = counts_of(self.book)

    def number(self):
        """How many moves there are."""
        return sum([self.counts[row] for row in self.used])

    def ahead(self, row):
        """The layers through which the used rows of a row that is done lead."""
        (_, layer, _), rule, _ = self.book[row]
        takes, puts, _ = self.rules[rule]
        return puts if takes else puts + [layer]

    def moves_from(self, begin, many):
        """The moves from the begin-th on, many or as many as there are."""
        left = self.used[::-1]
        moves = []
        while left and len(moves) < many:
            row = left.pop()
            if self.counts[row] <= begin:
                begin -= self.counts[row]
                continue
            if begin:
                begin -= 1
            else:
                moves.append(self.book[row][1])
            left.extend(self.book[row][2][::-1])
        return moves

    def laid_at(self, moment):
        """What a number of moves, no more than there are, leave."""
        used = self.used
        layers = self.layers
        beneath = []
        while True:
            at = 0
            control = ()
            while at < len(used) and self.counts[used[at]] <= moment:
                moment -= self.counts[used[at]]
                control = self.book[used[at]][0][2]
                at += 1
            if moment == 0:
                beneath.append(list(control) + layers[at:])
                return [layer for row in beneath[::-1] for layer in row]
            # The run of this row is left in its midst.
            beneath.append(layers[at + 1:])
            layers = self.ahead(used[at])
            used = self.book[used[at]][2]
            moment -= 1

    def peak(self, used, layers, peaks):
        """The greatest number of layers in a run of used rows through layers, and behind how many moves it is there."""
        best = (len(layers), 0)
        gone = 0
        for at, row in enumerate(used):
            many, moment = peaks[row]
            many += len(layers) - at - 1
            if many > best[0]:
                best = (many, gone + moment)
            gone += self.counts[row]
        return best

    def highest(self):
        """The greatest number of layers that lie there, and the least number of moves behind which so many do."""
        peaks = []
        for row, ((control, _, _), rule, used) in enumerate(self.book):
            first = len(control) + 1
            if rule is None:
                peaks.append((first, 0))
                continue
            many, moment = self.peak(used, self.ahead(row), peaks)
            peaks.append((many, moment + 1) if many > first else (first, 0))
        return self.peak(self.used, self.layers, peaks)

    def off_within(self):
        """For each row how many of its moves there are up to the one that takes its layer, None if it is held back."""
        told = []
        for _, rule, used in self.book:
            if rule is None:
                told.append(None)
            elif self.rules[rule][0]:
                told.append(1)
            else:
                gone = 1 + sum([self.counts[row] for row in used[:-1]])
                last = told[used[-1]]
                told.append(None if last is None else gone + last)
        return told

    def offs(self):
        """For each layer how many moves there are up to the one that takes it."""
        within = self.off_within()
        told = [None for _ in self.layers]
        held = []
        gone = 0
        for at, row in enumerate(self.used):
            if within[row] is None:
                held.append(at)
            else:
                # What was held back goes off by the same move, or lies above and is gone before.
                for place in held + [at]:
                    told[place] = gone + within[row]
                held = []
            gone += self.counts[row]
        return told

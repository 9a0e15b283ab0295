"""The least numbers of all drops of some rules, found from the least ones up, each with how it comes."""

from heapq import heappop, heappush

from roadheld.coded import Coded

# The number of the empty control, which comes first of all.
EMPTY = 0


class Solver:
    """All drops (c, a, q) of rules, in numbers, with the fewest deeds of each.

    Beside the drops stand the paths (line, q): from nothing held back one comes through what is put, the layers
    of the line, to q held back. Whatever is settled next has the least number of all that are left, since
    nothing comes of others with a lesser number than theirs.
    """

    def __init__(self, rules):
        self.coded = Coded(rules)
        self.numbers = {}
        self.reasons = {}
        self.offered = {}
        self.queue = []
        self.many = 0
        self.drops_from = {}
        self.drops_of = {}
        self.waiting = {}
        # For a control: the least number with which it is held back by a rule that takes nothing, and this rule.
        self.freely = {}
        self.settle()

    def offer(self, number, item, reason):
        """Notes that a drop or a path comes with a number, if it is not known to come with less."""
        if item in self.numbers or item in self.offered and self.offered[item] <= number:
            return
        self.offered[item] = number
        self.many += 1
        heappush(self.queue, (number, self.many, item, reason))

    def settle(self):
        """Settles all drops and paths."""
        self.offer(0, (0, EMPTY), None)
        numbers = self.coded.control_numbers
        for control in self.coded.controls[1:]:
            head = self.coded.head_of(control)
            self.offer(0, (head[0], head[1], numbers[control]), None)
        while self.queue:
            number, _, item, reason = heappop(self.queue)
            if item in self.numbers:
                continue
            self.numbers[item] = number
            self.reasons[item] = reason
            if len(item) == 2:
                self.path_settled(item, number)
            else:
                self.drop_settled(item, number)

    def path_settled(self, path, number):
        """Offers what comes of a path, with the drops that are settled."""
        line, control = path
        for rule in self.coded.putters[line]:
            head = self.coded.heads[rule]
            if head is not None:
                self.offer(number + 1, (head[0], head[1], control), (rule, control))
            elif control not in self.freely:
                self.freely[control] = (number + 1, rule)
                for layer, behind, more in self.drops_from.get(control, []):
                    self.offer(number + 1 + more, (EMPTY, layer, behind), (rule, control))
        for layer, longer in self.coded.longer[line].items():
            self.waiting.setdefault((control, layer), []).append((longer, number))
            for behind, more in self.drops_of.get((control, layer), []):
                self.offer(number + more, (longer, behind), control)

    def drop_settled(self, drop, number):
        """Offers what comes of a drop, with the paths that are settled."""
        control, layer, behind = drop
        self.drops_from.setdefault(control, []).append((layer, behind, number))
        self.drops_of.setdefault((control, layer), []).append((behind, number))
        for longer, ahead in self.waiting.get((control, layer), []):
            self.offer(ahead + number, (longer, behind), control)
        if control in self.freely:
            ahead, rule = self.freely[control]
            self.offer(ahead + number, (EMPTY, layer, behind), (rule, control))

    def all_numbers(self):
        """The pairs of all drops, in numbers, and their least numbers, ascending."""
        return sorted([(item, number) for item, number in self.numbers.items() if len(item) == 3])

    def used(self, drop):
        """The drops, in order, by which a drop comes; none where it comes by no rule."""
        if self.reasons[drop] is None:
            return []
        rule, control = self.reasons[drop]
        line = self.coded.lines[rule]
        drops = []
        if self.coded.heads[rule] is None:
            drops.append((control, drop[1], drop[2]))
        while line != 0:
            ahead = self.reasons[(line, control)]
            drops.append((ahead, self.coded.lasts[line], control))
            line = self.coded.shorter[line]
            control = ahead
        return drops[::-1]

    def moves_of(self, drops):
        """The rules that are done, one behind another, by some drops."""
        moves = []
        left = drops[::-1]
        while left:
            drop = left.pop()
            if self.reasons[drop] is not None:
                moves.append(self.reasons[drop][0])
            left.extend(self.used(drop)[::-1])
        return moves

    def ways_on(self, ways, layer):
        """The least numbers with which controls are held back behind one more layer, each with its drop."""
        further = {}
        for control in ways:
            for behind, more in self.drops_of.get((control, layer), []):
                number = ways[control][0] + more
                if behind not in further or number < further[behind][0]:
                    further[behind] = (number, (control, layer, behind))
        return further

    def down(self, layers):
        """The least number with which layers come down, and the drops through them; None if they never do."""
        row = self.coded.numbered(layers)
        if row is None:
            return None
        stages = [{EMPTY: (0, None)}]
        for layer in row:
            stages.append(self.ways_on(stages[-1], layer))
        if EMPTY not in stages[-1]:
            return None
        drops = []
        control = EMPTY
        for stage in stages[:0:-1]:
            drops.append(stage[control][1])
            control = drops[-1][0]
        return (stages[-1][EMPTY][0], drops[::-1])

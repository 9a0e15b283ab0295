"""What was solved, told: the drops, how they come, and how layers come down by them."""

from roadheld.solving import FREE, LAST, LINES, SHIFT, Solver


class Traced:
    """All drops of rules in numbers, solved as Solver tells, and how they come.

    How a drop comes is read off the numbers when it is asked for: from its end to its begin, at each layer some
    control from which the numbers come together to what they are.
    """

    def __init__(self, coded, weights, rows):
        solver = Solver(coded, weights, rows)
        self.coded = coded
        self.weights = weights
        self.solver = solver
        self.numbers = solver.numbers
        self.controls = [()]
        for slot in solver.reads:
            self.controls.append(self.controls[slot >> SHIFT] + (coded.layers[slot & LAST],))
        self.rules_at = {}
        self.reasons = {}
        if rows is None or len(rows) == 1:
            solver.complete()

    def told_drop(self, drop):
        """A drop as it is told."""
        layer = self.coded.layers[drop >> SHIFT & LAST]
        return (self.controls[drop >> SHIFT + SHIFT], layer, self.controls[drop & LAST])

    def drop_of(self, told):
        """The key of a drop that is told; None if its controls or its layer are none of the rules."""
        control, layer, behind = told
        if control not in self.controls or behind not in self.controls:
            return None
        slot = self.controls.index(control) << SHIFT | self.coded.code(layer)
        return slot << SHIFT | self.controls.index(behind)

    def all_drops(self):
        """The pairs of all drops, as they are told, and their numbers, ascending."""
        layers = self.coded.layers
        controls = self.controls
        return sorted([((controls[drop >> SHIFT + SHIFT], layers[drop >> SHIFT & LAST], controls[drop & LAST]), number)
                       for drop, number in self.numbers.items() if drop < LINES])

    def lines_of(self, row):
        """The lines of a row that a rule puts: that of its first layer, and so on, without the whole row."""
        lines = [row[0]]
        for layer in row[1:-1]:
            lines.append(self.solver.longer[(lines[-1], layer)])
        return lines

    def step_back(self, line, layer, control, total):
        """The drop of a layer to a control, behind a line, with which the numbers come to total; None if none does."""
        for ahead in range(len(self.controls)):
            drop = (ahead << SHIFT | layer) << SHIFT | control
            if drop in self.numbers:
                number = self.numbers.get(line << SHIFT | ahead)
                if number is not None and number + self.numbers[drop] == total:
                    return drop
        return None

    def drops_through(self, row, control, total):
        """Drops, of this number together, through what a rule puts to a control; None if there are none."""
        if not row:
            return [] if control == 0 and total == 0 else None
        if len(row) == 1:
            first = row[0] << SHIFT | control
            return [first] if self.numbers.get(first) == total else None
        lines = self.lines_of(row)
        drops = []
        for at in range(len(row) - 1, 0, -1):
            drop = self.step_back(lines[at - 1], row[at], control, total)
            if drop is None:
                return None
            drops.append(drop)
            control = drop >> SHIFT + SHIFT
            total -= self.numbers[drop]
        first = row[0] << SHIFT | control
        return [first] + drops[::-1] if self.numbers.get(first) == total else None

    def rules_of_head(self, head):
        """The rules with a head, each an index and what it puts."""
        if not self.rules_at:
            self.rules_at[FREE] = [(index, [slot]) for slot, index in self.coded.freed.items()]
            for index, takes, puts in self.coded.rest:
                its = self.solver.head_of(takes) if takes else FREE
                self.rules_at.setdefault(its, []).append((index, puts))
        taken = self.coded.taken.get(head >> SHIFT)
        rules = self.rules_at.get(head, [])
        return rules if taken is None else [(taken, [])] + rules

    def done_by(self, head, control, number):
        """A rule with a head, and the drops through what it puts to a control, of this number together; or None."""
        for rule, puts in self.rules_of_head(head):
            weight = 1 if self.weights is None else self.weights[rule]
            drops = self.drops_through(puts, control, number - weight)
            if drops is not None:
                return (rule, drops)
        return None

    def find_reason(self, drop):
        """The rule by which a drop comes, None where it is read, and the drops that it uses."""
        number = self.numbers[drop]
        if number == 0:
            return (None, [])
        behind = drop & LAST
        found = self.done_by(drop - behind, behind, number)
        if found is not None:
            return found
        # Only a drop with nothing held back comes by a rule that takes nothing: its slot is its layer.
        control = 1
        while True:
            last = control << SHIFT + SHIFT | drop
            if last in self.numbers and self.numbers.get(FREE + control) == number - self.numbers[last]:
                rule, drops = self.done_by(FREE, control, number - self.numbers[last])
                return (rule, drops + [last])
            control += 1

    def reason(self, drop):
        """The rule by which a drop comes, None where it is read, and the drops that it uses, looked for once."""
        if drop not in self.reasons:
            self.reasons[drop] = self.find_reason(drop)
        return self.reasons[drop]

    def moves_of(self, drops):
        """The rules that are done, one behind another, by some drops."""
        moves = []
        left = drops[::-1]
        while left:
            rule, used = self.reason(left.pop())
            if rule is not None:
                moves.append(rule)
            left.extend(used[::-1])
        return moves

    def drops_down(self, row):
        """The drops of the least number together by which a row of layers comes down; it does."""
        stages = [{0: (0, None)}]
        for layer in row:
            further = {}
            for control, (ahead, _) in stages[-1].items():
                slot = control << SHIFT | layer
                for behind, more in self.solver.drops_of.get(slot, ()):
                    if behind not in further or ahead + more < further[behind][0]:
                        further[behind] = (ahead + more, slot << SHIFT | behind)
            stages.append(further)
        drops = []
        control = 0
        for stage in stages[:0:-1]:
            drops.append(stage[control][1])
            control = drops[-1] >> SHIFT + SHIFT
        return drops[::-1]

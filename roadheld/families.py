"""With which lots drops come, where some rules are there with some lots alone.

A family of lots is an integer, its bits the lots. What is made of others comes with the lots that the families of all
of these have in common; what can be made in several ways comes with those of all ways together. A drop stands under a
key as in solving; a line of several layers, and what comes of a rule that takes nothing, under keys below 0.
"""

from roadheld.solving import LAST, SHIFT

# The head of a rule that takes nothing.
FREE = -1


class Families:
    """The families of all drops of plain rules, each rule with a family of its own, which is every lot or fewer.

    What comes with every lot is looked at first: so most keys are looked at once.
    """

    def __init__(self, rules, families, every):
        self.every = every
        self.control_numbers = {(): 0}
        self.layer_numbers = {}
        self.longer = {}
        self.putters = {}
        self.lines = 1 << SHIFT
        self.lines_at = {}
        self.drops_of = {}
        self.drops_from = {}
        self.found = {}
        self.more = {}
        self.sure = []
        self.left = []
        for (takes, puts, _), family in zip(rules, families):
            self.plant(takes, puts, family)
        self.settle()

    def number_of(self, layer):
        """The number of a layer."""
        return self.layer_numbers.setdefault(layer, len(self.layer_numbers))

    def head_of(self, takes):
        """The head of a rule; its controls are noted."""
        controls = self.control_numbers
        if not takes:
            return FREE
        ahead = 0
        for length in range(1, len(takes)):
            control = tuple(takes[:length])
            if control not in controls:
                controls[control] = len(controls)
                slot = ahead << SHIFT | self.number_of(takes[length - 1])
                self.note(slot << SHIFT | controls[control], self.every)
            ahead = controls[control]
        return (ahead << SHIFT | self.number_of(takes[-1])) << SHIFT

    def plant(self, takes, puts, family):
        """Notes a rule at the end of the line of what it puts."""
        head = self.head_of(takes)
        if not puts:
            self.note(head, family)
            return
        line = self.number_of(puts[0])
        for layer in puts[1:]:
            longer = self.longer.setdefault(line, {})
            number = self.number_of(layer)
            if number not in longer:
                self.lines += 1
                longer[number] = self.lines
            line = longer[number]
        self.putters.setdefault(line, []).append((head, family))

    def note(self, key, family):
        """Notes that something comes with a family of lots."""
        known = self.found.get(key, 0)
        new = family & ~known
        if not new:
            return
        self.found[key] = known | new
        if new == self.every:
            self.sure.append(key)
        elif key not in self.more:
            self.left.append(key)
        self.more[key] = self.more.get(key, 0) | new

    def settle(self):
        """Notes all that comes of what is new, until nothing is."""
        while self.sure or self.left:
            key = self.sure.pop() if self.sure else self.left.pop()
            new = self.more.pop(key, 0)
            if new == 0:
                continue
            if key >= 0:
                self.settle_drop(key >> SHIFT, key & LAST, new)
            elif key < FREE - LAST:
                self.settle_line(-key >> SHIFT, -key & LAST, new)
            else:
                self.settle_freely(FREE - key, new)

    def family_through(self, line, control):
        """The family with which a line is come through to a control."""
        return self.found[line << SHIFT | control if line <= LAST else -(line << SHIFT | control)]

    def settle_drop(self, slot, behind, new):
        """Notes what comes of a drop with new lots."""
        self.drops_of.setdefault(slot, {})[behind] = True
        control = slot >> SHIFT
        for line, longer in self.lines_at.get(slot, {}).items():
            self.note(-(longer << SHIFT | behind), new & self.family_through(line, control))
        if control:
            drop = (slot & LAST) << SHIFT | behind
            self.drops_from.setdefault(control, {})[drop] = True
            self.note(drop, new & self.found.get(FREE - control, 0))
        else:
            self.settle_line(slot, behind, new)

    def settle_line(self, line, control, new):
        """Notes what comes of a line that is come through to a control with new lots."""
        for head, family in self.putters.get(line, ()):
            self.note(head | control if head >= 0 else head - control, new & family)
        if line in self.longer:
            for layer, longer in self.longer[line].items():
                slot = control << SHIFT | layer
                self.lines_at.setdefault(slot, {})[line] = longer
                for behind in self.drops_of.get(slot, ()):
                    self.note(-(longer << SHIFT | behind), new & self.found[slot << SHIFT | behind])

    def settle_freely(self, control, new):
        """Notes what comes of a rule that takes nothing and has a control held back, with new lots."""
        for drop in self.drops_from.get(control, ()):
            self.note(drop, new & self.found[control << SHIFT + SHIFT | drop])

    def family_down(self, layers):
        """The lots with which layers come down."""
        ways = {0: self.every}
        for layer in layers:
            further = {}
            for control, family in ways.items():
                slot = control << SHIFT | self.layer_numbers.get(layer, LAST)
                for behind in self.drops_of.get(slot, ()):
                    further[behind] = further.get(behind, 0) | family & self.found[slot << SHIFT | behind]
            ways = further
        return ways.get(0, 0)

"""The least numbers of the drops of some rules, found from the least ones up.

Controls and layers have numbers, as they come. What is found stands under keys, which are integers: a drop (c, a, q)
under c, a and q, one behind another; a line that is come through, from nothing held back to q, under the line and q,
below 0; further below 0 what is said at FREE and GOAL. A line is a beginning of what some rule puts, or of some row
that is asked about; a line of one layer has that layer's number. The slot of a drop is what is ahead of q in its key.
"""

from heapq import heappop, heappush

# By how many bits the parts of a key are apart, and the bits of the last part.
SHIFT = 20
LAST = 0xFFFFF
# The heads of what takes no layers: a rule, by which q is held back out of nothing; a row, which is all off where
# nothing is held back. What comes of them to q has the key that is so much less.
FREE = -1
GOAL = -0x40000000


class Solver:
    """All drops of plain rules, with the least number of each.

    Each rule counts as weights tell, or 1 where weights is None. Where rows are handed in, all is left as soon as
    the nearest one of them is known to come down: what has a greater number than it is not looked for then.

    Whatever is settled next has the least number of all that are left, since nothing comes of others with a
    lesser number than theirs.
    """

    def __init__(self, rules, weights, rows):
        self.rules = rules
        self.weights = weights
        self.control_numbers = {(): 0}
        self.layer_numbers = {}
        self.heads = []
        # What goes on from lines: by the next layer to longer lines; to heads, by a last layer or at once.
        self.longer = {}
        self.ends = {}
        self.putters = {}
        self.lines = 1 << SHIFT
        # What waits for drops of a slot: heads, and longer lines, each with the number so far.
        self.heads_at = {}
        self.lines_at = {}
        self.numbers = {}
        self.queue = []
        self.buckets = {}
        self.drops_of = {}
        self.drops_from = {}
        self.freely = {}
        self.plant_all(rows)
        self.settle(1)

    def plant_all(self, rows):
        """Notes what comes of the rules and rows at first."""
        layers = self.layer_numbers
        heads_at = self.heads_at
        heads = self.heads
        weights = self.weights
        weight = 1
        for takes, puts, _ in self.rules:
            if weights is not None:
                weight = weights[len(heads)]
            if len(takes) == 1:
                head = layers.setdefault(takes[0], len(layers)) << SHIFT
            elif takes:
                head = self.head_of(takes)
            else:
                head = FREE
            heads.append(head)
            if len(puts) == 1:
                layer = layers.setdefault(puts[0], len(layers))
                if layer in heads_at:
                    heads_at[layer].append((head, weight))
                else:
                    heads_at[layer] = [(head, weight)]
            else:
                self.plant(head, puts, weight)
        if rows is not None:
            for row in rows:
                self.plant(GOAL, row, 0)

    def head_of(self, takes):
        """The head of a rule that takes layers; its controls are noted."""
        controls = self.control_numbers
        layers = self.layer_numbers
        ahead = 0
        for length in range(1, len(takes)):
            control = tuple(takes[:length])
            layer = layers.setdefault(takes[length - 1], len(layers))
            if control not in controls:
                controls[control] = len(controls)
                self.offer((ahead << SHIFT | layer) << SHIFT | controls[control], 0)
            ahead = controls[control]
        return (ahead << SHIFT | layers.setdefault(takes[-1], len(layers))) << SHIFT

    def plant(self, head, puts, weight):
        """Has a head wait for what is put to go off."""
        layers = self.layer_numbers
        if not puts:
            self.offer(head, weight)
        elif len(puts) == 1:
            layer = layers.setdefault(puts[0], len(layers))
            self.heads_at.setdefault(layer, []).append((head, weight))
        elif len(puts) == 2:
            first = layers.setdefault(puts[0], len(layers))
            layer = layers.setdefault(puts[1], len(layers))
            self.ends.setdefault(first, []).append((layer, head, weight))
        else:
            line = layers.setdefault(puts[0], len(layers))
            for layer in puts[1:]:
                line = self.longer_line(line, layers.setdefault(layer, len(layers)))
            self.putters.setdefault(line, []).append((head, weight))

    def longer_line(self, line, layer):
        """The line longer by a layer, a new one if there is none yet."""
        longer = self.longer.setdefault(line, {})
        if layer not in longer:
            self.lines += 1
            longer[layer] = self.lines
        return longer[layer]

    def offer(self, key, number):
        """Notes that something comes with a number, if it is not known to come with less."""
        numbers = self.numbers
        if key in numbers and numbers[key] <= number:
            return
        numbers[key] = number
        if number in self.buckets:
            self.buckets[number].append(key)
        else:
            self.buckets[number] = [key]
            heappush(self.queue, number)

    def settle(self, alone):
        """Settles all that comes, or all up to the nearest of rows: where alone is 1, without what has its number."""
        numbers = self.numbers
        while self.queue:
            number = self.queue[0]
            if GOAL in numbers and numbers[GOAL] < number + alone:
                return
            heappop(self.queue)
            keys = self.buckets.pop(number)
            for key in keys:
                if numbers[key] < number:
                    continue
                if key >= 0:
                    self.settle_drop(key >> SHIFT, key & LAST, number)
                elif key < GOAL - LAST:
                    self.settle_line(-key >> SHIFT, -key & LAST, number)
                elif key > GOAL:
                    self.settle_freely(FREE - key, number)

    def settle_drop(self, slot, behind, number):
        """Offers what comes of a drop."""
        drops_of = self.drops_of
        if slot in drops_of:
            drops_of[slot].append((behind, number))
        else:
            drops_of[slot] = [(behind, number)]
        if slot in self.heads_at:
            self.done(self.heads_at[slot], behind, number)
        if slot in self.lines_at:
            for line, more in self.lines_at[slot]:
                self.offer(-(line << SHIFT | behind), number + more)
        if slot > LAST:
            control = slot >> SHIFT
            drop = (slot & LAST) << SHIFT | behind
            self.drops_from.setdefault(control, []).append((drop, number))
            if control in self.freely:
                self.offer(drop, number + self.freely[control])
        elif slot in self.ends or slot in self.longer:
            self.settle_line(slot, behind, number)

    def done(self, heads, control, number):
        """Offers what comes of heads of which all layers are off, so that a control is held back."""
        numbers = self.numbers
        buckets = self.buckets
        for head, more in heads:
            key = head | control if head >= 0 else head - control
            more += number
            if key not in numbers or more < numbers[key]:
                numbers[key] = more
                if more in buckets:
                    buckets[more].append(key)
                else:
                    buckets[more] = [key]
                    heappush(self.queue, more)

    def settle_line(self, line, control, number):
        """Offers what comes of a line that is come through to a control."""
        if line in self.putters:
            self.done(self.putters[line], control, number)
        slots = control << SHIFT
        for layer, head, weight in self.ends.get(line, ()):
            slot = slots | layer
            self.heads_at.setdefault(slot, []).append((head, number + weight))
            for behind, more in self.drops_of.get(slot, ()):
                self.offer(head | behind if head >= 0 else head - behind, number + weight + more)
        if line in self.longer:
            for layer, longer in self.longer[line].items():
                slot = slots | layer
                self.lines_at.setdefault(slot, []).append((longer, number))
                for behind, more in self.drops_of.get(slot, ()):
                    self.offer(-(longer << SHIFT | behind), number + more)

    def settle_freely(self, control, number):
        """Offers what comes of a rule that takes nothing and has a control held back."""
        if control:
            self.freely[control] = number
            for drop, more in self.drops_from.get(control, ()):
                self.offer(drop, number + more)

    def number_down(self, layers):
        """The least number with which layers come down, None if they do not."""
        ways = {0: 0}
        for layer in layers:
            number = self.layer_numbers.get(layer)
            if number is None:
                return None
            further = {}
            for control, ahead in ways.items():
                for behind, more in self.drops_of.get(control << SHIFT | number, ()):
                    if behind not in further or ahead + more < further[behind]:
                        further[behind] = ahead + more
            ways = further
        return ways.get(0)

    def least_number(self):
        """The least number with which one of the rows that were handed in comes down, None if none does."""
        return self.numbers.get(GOAL)

    def nearest(self, rows):
        """This number, and the first index of a row of these rows that comes down with it; None if none does."""
        number = self.least_number()
        if number is None or len(rows) == 1:
            return None if number is None else (number, 0)
        # A row may come down with a drop of that very number.
        self.settle(0)
        for index, row in enumerate(rows):
            if self.number_down(row) == number:
                return (number, index)
        return None

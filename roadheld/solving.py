"""The least numbers of the drops of some rules, found from the least ones up.

What is found stands under keys, which are integers: a base, and behind it, in the last bits, the number of the control
to which one comes. The base of a drop (c, a, ..) is c and a, one behind another, its slot, and then no bits; that of a
line, which is come through from nothing held back, stands above all drops; above these are FREE, for a rule that takes
nothing, and GOAL, for a row that is asked about. A line is a beginning of what some rule puts, or of such a row; one
of one layer is the slot of this layer, with nothing held back. The head of a rule is the base of what comes of it when
all that it puts is off.
"""

from heapq import heappop, heappush

# By how many bits the parts of a key are apart, and the bits of the last part.
SHIFT = 20
LAST = 0xFFFFF
# Where the keys of lines begin, of FREE and of GOAL.
LINES = 0x1000000000000000
FREE = 0x40000000000000000000000
GOAL = 0x80000000000000000000000


class Solver:
    """All drops of rules in numbers, with the least number of each.

    Each rule counts as weights tell, or 1 where weights is None. Where rows are handed in, all is left as soon as
    the nearest one of them is known to come down: what has a greater number than it is not looked for then.

    Whatever is settled next has the least number of all that are left, since nothing comes of others with a
    lesser number than theirs.
    """

    def __init__(self, coded, weights, rows):
        # The controls longer by a layer, by the slot of the drop by which they are read.
        self.reads = {}
        # The longer lines, by a line and a layer; what goes on from lines: by a layer, to what base, with what number.
        self.longer = {}
        self.further = {}
        # What waits for drops of a slot: to what base they lead, and the number so far.
        self.waiting = {}
        self.freed = coded.freed
        # Of the layers that a rule takes off the drops need not be looked for: of none that is not read the number
        # is less than 1. So they are not noted before they are told.
        self.taken = coded.taken if weights is None else {}
        self.weights = weights
        self.numbers = {}
        self.queue = []
        self.buckets = {}
        self.drops_of = {}
        self.drops_from = {}
        self.freely = {}
        self.plant_all(coded.rest, rows)
        for takes, puts in coded.idle:
            self.plant(self.head_of(takes), puts, 0)
        if weights is not None:
            for slot, index in coded.taken.items():
                self.offer(slot << SHIFT, weights[index])
        self.settle_known()
        self.settle(1)

    def plant_all(self, rules, rows):
        """Notes what comes at first of rules that do not only take or put a layer, and has rows wait to come down."""
        further = self.further
        weights = self.weights
        weight = 1
        for index, takes, puts in rules:
            if weights is not None:
                weight = weights[index]
            if len(takes) == 1:
                head = takes[0] << SHIFT
            else:
                head = self.head_of(takes) if takes else FREE
            if len(puts) != 2:
                self.plant(head, puts, weight)
            elif puts[0] in further:
                further[puts[0]].append((puts[1], head, weight))
            else:
                further[puts[0]] = [(puts[1], head, weight)]
        if rows is not None:
            for row in rows:
                self.plant(GOAL, row, 0)

    def head_of(self, takes):
        """The head of a rule that takes layers; its controls are noted."""
        reads = self.reads
        ahead = 0
        for layer in takes[:-1]:
            slot = ahead << SHIFT | layer
            if slot not in reads:
                reads[slot] = len(reads) + 1
            ahead = reads[slot]
        return (ahead << SHIFT | takes[-1]) << SHIFT

    def plant(self, head, puts, weight):
        """Has a head wait for what is put to go off."""
        if not puts:
            self.offer(head, weight)
        elif len(puts) == 1:
            self.waiting.setdefault(puts[0], []).append((head, weight))
        else:
            line = puts[0]
            for layer in puts[1:-1]:
                line = self.longer_line(line, layer)
            self.further.setdefault(line, []).append((puts[-1], head, weight))

    def longer_line(self, line, layer):
        """The line longer by a layer, a new one if there is none yet."""
        longer = self.longer
        if (line, layer) not in longer:
            longer[(line, layer)] = LINES + len(longer)
            self.further.setdefault(line, []).append((layer, longer[(line, layer)] << SHIFT, 0))
        return longer[(line, layer)]

    def offer(self, key, number):
        """Notes that something comes with a number, if it is not known to come with less."""
        numbers = self.numbers
        if key in numbers and numbers[key] <= number:
            return
        numbers[key] = number
        if number in self.buckets:
            self.buckets[number].append(key)
        else:
            self.buckets[number] = [key]
            heappush(self.queue, number)

    def settle_known(self):
        """Offers what comes of the drops of which the numbers are known from the begin on: what is taken, or read."""
        taken = self.taken
        for slot, pairs in self.waiting.items():
            if slot in taken:
                self.offer_all(pairs, 0, 1)
        for slot in self.further:
            if slot in taken:
                self.go_on(slot, 0, 1)
        for slot, control in self.reads.items():
            self.numbers[slot << SHIFT | control] = 0
            self.settle_drop(slot, control, 0)

    def settle(self, alone):
        """Settles all that comes, or all up to the nearest of rows: where alone is 1, without what has its number."""
        numbers = self.numbers
        further = self.further
        queue = self.queue
        while queue:
            number = queue[0]
            if GOAL in numbers and numbers[GOAL] < number + alone:
                return
            heappop(queue)
            keys = self.buckets.pop(number)
            for key in keys:
                if numbers[key] < number:
                    continue
                if key < LINES:
                    self.settle_drop(key >> SHIFT, key & LAST, number)
                elif key >= FREE:
                    if key < GOAL:
                        self.settle_freely(key & LAST, number)
                elif key >> SHIFT in further:
                    self.go_on(key >> SHIFT, key & LAST, number)

    def settle_drop(self, slot, behind, number):
        """Offers what comes of a drop."""
        drops_of = self.drops_of
        if slot in drops_of:
            drops_of[slot].append((behind, number))
        else:
            drops_of[slot] = [(behind, number)]
        if slot in self.waiting:
            self.offer_all(self.waiting[slot], behind, number)
        if slot > LAST:
            # A rule that takes nothing may have brought about what was held back.
            control = slot >> SHIFT
            drop = (slot & LAST) << SHIFT | behind
            if control in self.drops_from:
                self.drops_from[control].append((drop, number))
            else:
                self.drops_from[control] = [(drop, number)]
            if control in self.freely:
                self.offer(drop, number + self.freely[control])
            return
        if slot in self.further:
            self.go_on(slot, behind, number)
        if behind and slot in self.freed:
            self.offer(FREE + behind, number + (1 if self.weights is None else self.weights[self.freed[slot]]))

    def offer_all(self, pairs, behind, number):
        """Offers what comes of pairs of a part of a key and a number, and of one such pair more."""
        numbers = self.numbers
        buckets = self.buckets
        for base, more in pairs:
            key = base + behind
            more += number
            if key not in numbers or more < numbers[key]:
                numbers[key] = more
                if more in buckets:
                    buckets[more].append(key)
                else:
                    buckets[more] = [key]
                    heappush(self.queue, more)

    def go_on(self, line, control, number):
        """Offers what comes of a line that is come through to a control."""
        waiting = self.waiting
        drops_of = self.drops_of
        for layer, base, more in self.further[line]:
            slot = control << SHIFT | layer
            more += number
            if slot in waiting:
                waiting[slot].append((base, more))
            else:
                waiting[slot] = [(base, more)]
            if slot in drops_of:
                self.offer_all(drops_of[slot], base, more)
            if slot in self.taken:
                self.offer(base, more + 1)

    def settle_freely(self, control, number):
        """Offers what comes of a rule that takes nothing and has a control held back."""
        if control:
            self.freely[control] = number
            for drop, more in self.drops_from.get(control, ()):
                self.offer(drop, number + more)

    def complete(self):
        """Notes the drops of the layers that a rule takes off, too; what was settled is not settled on any more."""
        for slot in self.taken:
            self.numbers[slot << SHIFT] = 1
            self.drops_of.setdefault(slot, []).append((0, 1))
        self.taken = {}

    def number_down(self, layers):
        """The least number with which layers come down, None if they do not."""
        ways = {0: 0}
        for layer in layers:
            further = {}
            for control, ahead in ways.items():
                for behind, more in self.drops_of.get(control << SHIFT | layer, ()):
                    if behind not in further or ahead + more < further[behind]:
                        further[behind] = ahead + more
            ways = further
        return ways.get(0)

    def least_number(self):
        """The least number with which one of the rows that were handed in comes down, None if none does."""
        return self.numbers.get(GOAL)

    def nearest(self, rows):
        """This number, and the first index of a row of these rows that comes down with it; None if none does."""
        number = self.least_number()
        if number is None or len(rows) == 1:
            return None if number is None else (number, 0)
        # A row may come down with a drop of that very number.
        self.settle(0)
        self.complete()
        for index, row in enumerate(rows):
            if self.number_down(row) == number:
                return (number, index)
        return None

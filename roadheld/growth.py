"""A machine, grown until it keeps rules, and takes nothing but what comes by them."""

from roadheld.folding import folded

# The state from which the grown machine begins, and the node of the rules that take nothing.
TOP = 0
ROOT = 0


class Growth:
    """A machine that grows by rules in numbers; lots of states are integers, their bits the states.

    It begins with a state of its own, TOP, since what a rule puts may go on only behind whole lists of layers,
    and not wherever rows lead back to a first state. The states that stand on the way through what rules put
    are called by what is put ahead of them: from such a state there lead the lists of layers that come, so
    begun, with this beginning left out.

    The rules stand at the nodes of a tree, each at the end of what it takes. Noted are the lot of states to which
    rows go, by a layer and a state; and, at each node, the lot of those to which what leads to the node leads from
    the firsts. What is new at a node waits until all follows from it, at the root last, since most comes of that.
    """

    def __init__(self, coded, machine):
        # How many states there are, and by what number those of the machine are called here.
        self.many = 1
        self.numbers = {}
        self.longer = [{}]
        self.putters = [[]]
        self.lots = [0]
        self.new = [0]
        self.left = []
        # The nodes from which a layer leads on, each with the one to which, by layers.
        self.steps = {}
        self.rows = {}
        self.named = {}
        self.taken = coded.taken
        self.freed = coded.freed
        for _, takes, puts in coded.rest:
            self.plant(takes, puts)
        self.ends = 0
        self.note_machine(coded, machine)
        self.note_states(ROOT, 1 << TOP)
        self.grow()

    def note_machine(self, coded, machine):
        """Notes the rows and ends of the machine from which it grows."""
        _, firsts, rows, ends = machine
        begin = {state: True for state in firsts}
        for state, layer, other in rows:
            number = coded.code(layer)
            others = 1 << self.number_of(other)
            self.note_row(number, self.number_of(state), others)
            if state in begin:
                self.note_row(number, TOP, others)
        for state in ends:
            self.ends |= 1 << self.number_of(state)
            if state in begin:
                self.ends |= 1 << TOP

    def number_of(self, state):
        """How a state of the machine is called here."""
        if state not in self.numbers:
            self.numbers[state] = self.many
            self.many += 1
        return self.numbers[state]

    def plant(self, takes, puts):
        """Puts a rule at the node of what it takes."""
        node = ROOT
        for layer in takes:
            if layer not in self.longer[node]:
                further = len(self.longer)
                self.longer[node][layer] = further
                self.steps.setdefault(layer, []).append((node, further))
                self.longer.append({})
                self.putters.append([])
                self.lots.append(0)
                self.new.append(0)
            node = self.longer[node][layer]
        self.putters[node].append(puts)

    def grow(self):
        """Notes all that follows, until nothing new does."""
        while self.left or self.new[ROOT]:
            node = self.left.pop() if self.left else ROOT
            states = self.new[node]
            self.new[node] = 0
            for layer, further in self.longer[node].items():
                if layer in self.rows:
                    self.note_states(further, self.reached(layer, states))
            for puts in self.putters[node]:
                self.lead(puts, states)
            if node == ROOT:
                self.grow_simply(states)

    def grow_simply(self, states):
        """Notes what follows of new first states by rules that only put, or only take, one layer."""
        for layer in self.freed:
            self.note_row(layer, TOP, states)
        for layer in self.rows:
            if layer in self.taken:
                self.note_states(ROOT, self.reached(layer, states))

    def reached(self, layer, states):
        """The lot of the states to which rows of a layer go from some states."""
        reached = 0
        for state, others in self.rows[layer].items():
            if states >> state & 1:
                reached |= others
        return reached

    def note_states(self, node, states):
        """Notes that what leads to a node leads to some states."""
        new = states & ~self.lots[node]
        if new:
            self.lots[node] |= new
            if node != ROOT and not self.new[node]:
                self.left.append(node)
            self.new[node] |= new

    def note_row(self, layer, state, others):
        """Notes that rows of a layer go from a state to others."""
        going = self.rows.setdefault(layer, {})
        known = going.get(state, 0)
        new = others & ~known
        if new:
            going[state] = known | new
            if layer in self.taken and self.lots[ROOT] >> state & 1:
                self.note_states(ROOT, new)
            for node, further in self.steps.get(layer, ()):
                if self.lots[node] >> state & 1:
                    self.note_states(further, new)

    def lead(self, puts, states):
        """Has what a rule puts lead to some states."""
        if not puts:
            self.note_states(ROOT, states)
            return
        ahead = TOP
        for layer in puts[:-1]:
            if (ahead, layer) not in self.named:
                self.named[(ahead, layer)] = self.many
                self.many += 1
                self.note_row(layer, ahead, 1 << self.named[(ahead, layer)])
            ahead = self.named[(ahead, layer)]
        self.note_row(puts[-1], ahead, states)

    def told_machine(self, layers):
        """The machine that has grown, layers being those of the numbers."""
        goings = [[] for _ in range(self.many)]
        for layer, going in self.rows.items():
            for state, lot in going.items():
                goings[state].append((layer, lot))
        return folded(goings, self.lots[ROOT], self.ends, layers)


def grow(coded, machine):
    """The plain machine that comes of one by rules in numbers."""
    return Growth(coded, machine).told_machine(coded.layers)


def grow_rows(coded, messages):
    """The plain machine that takes all that comes of plain messages by rules in numbers."""
    return grow(coded, machine_of_rows([layers for layers, _ in messages]))


def machine_of_rows(rows):
    """The plain machine that takes just some lists of layers."""
    goings = [{}]
    ends = {}
    for layers in rows:
        state = 0
        for layer in layers:
            if layer not in goings[state]:
                goings[state][layer] = len(goings)
                goings.append({})
            state = goings[state][layer]
        ends[state] = True
    table = []
    for state, going in enumerate(goings):
        table.extend([(state, layer, going[layer]) for layer in sorted(going)])
    return (len(goings), [0], table, sorted(ends))

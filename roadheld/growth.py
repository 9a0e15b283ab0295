"""A machine, grown until it keeps rules, and takes nothing but what comes by them."""

from roadheld.folding import fold
from roadheld.walks import prune

# The state from which the grown machine begins, and the node of the rules that take nothing.
TOP = 0
ROOT = 0


class Growth:
    """A machine that grows by plain rules.

    It begins with a state of its own, TOP, since what a rule puts may go on only behind whole lists of layers,
    and not wherever rows lead back to a first state. The states that stand on the way through what rules put
    are called by what is put ahead of them: from such a state there lead the lists of layers that come, so
    begun, with this beginning left out.

    The rules stand at the nodes of a tree, each at the end of what it takes. Two kinds of facts are noted, each
    once: (state, layer, other), a row; and (node, state), a state to which what leads to the node leads from
    the firsts.
    """

    def __init__(self, rules, machine):
        many, firsts, rows, ends = machine
        self.many = many + 1
        self.longer = [{}]
        self.putters = [[]]
        self.states_at = [{}]
        self.nodes_at = {}
        self.rows = {}
        self.named = {(): TOP}
        self.left = [(ROOT, TOP)]
        for takes, puts, _ in rules:
            self.plant(takes, puts)
        begin = {state: True for state in firsts}
        for state, layer, other in rows:
            self.left.append((state + 1, layer, other + 1))
            if state in begin:
                self.left.append((TOP, layer, other + 1))
        self.ends = [state + 1 for state in ends]
        if any([state in begin for state in ends]):
            self.ends = [TOP] + self.ends
        self.grow()

    def plant(self, takes, puts):
        """Puts a rule at the node of what it takes."""
        node = ROOT
        for layer in takes:
            if layer not in self.longer[node]:
                self.longer[node][layer] = len(self.longer)
                self.longer.append({})
                self.putters.append([])
                self.states_at.append({})
            node = self.longer[node][layer]
        self.putters[node].append(puts)

    def grow(self):
        """Notes all that follows, until nothing new does."""
        while self.left:
            fact = self.left.pop()
            if len(fact) == 2:
                self.note_state(fact[0], fact[1])
            else:
                self.note_row(fact[0], fact[1], fact[2])

    def note_state(self, node, state):
        """Notes that what leads to a node leads to a state."""
        if state in self.states_at[node]:
            return
        self.states_at[node][state] = True
        self.nodes_at.setdefault(state, []).append(node)
        going = self.rows.get(state, {})
        for layer, further in self.longer[node].items():
            self.left.extend([(further, other) for other in going.get(layer, {})])
        for puts in self.putters[node]:
            self.lead(puts, state)

    def note_row(self, state, layer, other):
        """Notes a row."""
        others = self.rows.setdefault(state, {}).setdefault(layer, {})
        if other in others:
            return
        others[other] = True
        for node in self.nodes_at.get(state, []):
            if layer in self.longer[node]:
                self.left.append((self.longer[node][layer], other))

    def lead(self, puts, state):
        """Has what a rule puts lead to a state."""
        if not puts:
            self.left.append((ROOT, state))
            return
        ahead = TOP
        for length in range(1, len(puts)):
            name = tuple(puts[:length])
            if name not in self.named:
                self.named[name] = self.many
                self.many += 1
                self.left.append((ahead, puts[length - 1], self.named[name]))
            ahead = self.named[name]
        self.left.append((ahead, puts[-1], state))

    def told_machine(self):
        """The machine that has grown."""
        rows = []
        for state, going in self.rows.items():
            for layer, others in going.items():
                rows.extend([(state, layer, other) for other in others])
        return fold(prune((self.many, sorted(self.states_at[ROOT]), sorted(rows), self.ends)))


def grow(rules, machine):
    """The plain machine that comes of one by plain rules."""
    return Growth(rules, machine).told_machine()


def machine_of_rows(rows):
    """The plain machine that takes just some lists of layers."""
    goings = [{}]
    ends = {}
    for layers in rows:
        state = 0
        for layer in layers:
            if layer not in goings[state]:
                goings[state][layer] = len(goings)
                goings.append({})
            state = goings[state][layer]
        ends[state] = True
    table = []
    for state, going in enumerate(goings):
        table.extend([(state, layer, going[layer]) for layer in sorted(going)])
    return (len(goings), [0], table, sorted(ends))

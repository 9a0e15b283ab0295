"""Steps of protocols dealt to all agents of a post again and again, some steps otherwise: each step is dealt once."""

from roadheld.coding import Coded, WORD_LAYERS
from roadheld.rules import layers_of


class Dealing:
    """What the answers of agents take and put; layers stand there as names, dicts by their kinds, tell them."""

    def __init__(self, agents, names):
        self.names = names
        self.pairs = [(agent, partner) for agent in agents for partner in agents if agent != partner]
        self.columns = {}
        self.dealt = {}

    def column(self, part, layer):
        """A layer of parts as it is dealt to each agent with each partner, the agents standing in a part."""
        kind, whose = layer
        if kind == "word":
            return [self.names[kind][whose] for _ in self.pairs]
        at = part if whose == 0 else 1 - part
        if (kind, at) not in self.columns:
            owners = self.names[kind]
            self.columns[(kind, at)] = [owners[pair[at]] for pair in self.pairs]
        return self.columns[(kind, at)]

    def rows(self, part, layers):
        """Layers of parts as they are dealt to each agent with each partner, the agents standing in a part."""
        if not layers:
            return [() for _ in self.pairs]
        columns = [self.column(part, layer) for layer in layers]
        return list(zip(*columns))

    def answers_of(self, step):
        """What a plain step takes and puts, for each agent with each partner."""
        dealt = self.dealt.get(step)
        if dealt is None:
            part, takes, puts = step
            dealt = list(zip(self.rows(part, takes), self.rows(part, puts)))
            self.dealt[step] = dealt
        return dealt

    def answers(self, table):
        """What the answers of protocols, a table of their steps, take and put, in order; of those alike the first."""
        rules = []
        for steps in table.values():
            lots = [self.answers_of(step) for step in steps[1:]]
            # Pair by pair, and of each pair step by step.
            rules.extend([rule for row in zip(*lots) for rule in row])
        return list({rule: True for rule in rules})


def plain_dealing(agents):
    """A dealing with plain layers."""
    names = {kind: {agent: (kind, agent) for agent in agents} for kind in ("cipher", "seal", "label")}
    names["word"] = WORD_LAYERS
    return Dealing(agents, names)


class Posted:
    """The rules of a post's agents, of whom the adversary has some keys, in numbers; protocols come each time."""

    def __init__(self, agents, keys):
        layers = layers_of(agents)
        self.coded = Coded()
        puts = self.coded.code_row([layer for layer in layers if layer[0] != "seal" or layer in keys])
        takes = self.coded.code_row([layer for layer in layers if layer[0] != "cipher" or layer in keys])
        self.coded.freed = {layer: index for index, layer in enumerate(puts)}
        self.coded.taken = {layer: len(puts) + index for index, layer in enumerate(takes)}
        self.many = len(puts) + len(takes)
        names = {kind: owners for kind, owners in self.coded.kinds.items()}
        names["word"] = self.coded.code_row(WORD_LAYERS)
        self.dealing = Dealing(agents, names)

    def is_by_adversary(self, takes, puts):
        """Whether the adversary may do by one put or take what takes and puts the same."""
        if len(takes) + len(puts) != 1:
            return False
        return puts[0] in self.coded.freed if puts else takes[0] in self.coded.taken

    def coded_with(self, table):
        """The rules with protocols, a table of their steps, in the order of rules_of."""
        coded = self.coded.copied()
        index = self.many
        for takes, puts in self.dealing.answers(table):
            if not self.is_by_adversary(takes, puts):
                coded.note(index, takes, puts)
                index += 1
        return coded

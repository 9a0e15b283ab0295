"""Rules in numbers, so that they can be solved soon: words are numbered by themselves, other layers as they come."""

from roadheld.forms import WORDS, is_agents_text, is_row

WORD_LAYERS = (("word", 0), ("word", 1), ("word", 2), ("word", 3), ("word", 4), ("word", 5), ("word", 6), ("word", 7),
               ("word", 8), ("word", 9))


class Coded:
    """Rules in numbers.

    The first rule that only takes a layer, and the first one that only puts it, stand by themselves, by its number:
    of these there are most. The others are triples of an index, what is taken and what is put. Besides there may be
    some that count nothing, and take more than one layer: pairs of what is taken and what is put.
    """

    def __init__(self):
        self.kinds = {"cipher": {}, "seal": {}, "label": {}}
        self.layers = list(WORD_LAYERS)
        self.known = {}
        self.taken = {}
        self.freed = {}
        self.rest = []
        self.idle = []

    def code(self, layer):
        """The number of a plain layer; it gets one if it has none yet."""
        return self.code_row((layer,))[0]

    def code_row(self, layers):
        """The numbers of plain layers; those that have none yet get one."""
        row = []
        for layer in layers:
            kind, whose = layer
            if kind == "word":
                row.append(whose)
                continue
            owners = self.kinds[kind]
            if whose not in owners:
                owners[whose] = len(self.layers)
                self.layers.append(layer)
            row.append(owners[whose])
        return row

    def one_more(self):
        """The number of something that lies among layers, and is none."""
        self.layers.append(None)
        return len(self.layers) - 1

    def is_new(self, kind, whose):
        """Whether a layer of an agent has a text that is an agent's; it has no number yet, and gets one if it has."""
        if whose not in self.known:
            if not is_agents_text(whose):
                return False
            self.known[whose] = True
        self.kinds[kind][whose] = len(self.layers)
        self.layers.append((kind, whose))
        return True

    def layers_in(self, thing):
        """A list of layers of any agents in numbers; None for anything else.

        All layers that are handed in to be solved come through here, so this is written to be done fast.
        """
        if not isinstance(thing, list) and not isinstance(thing, tuple):
            return None
        row = []
        kinds = self.kinds
        for layer in thing:
            if not isinstance(layer, tuple) and not isinstance(layer, list) or len(layer) != 2:
                return None
            kind, whose = layer
            if not isinstance(kind, str):
                return None
            if kind == "word":
                if not isinstance(whose, int) or whose is True or whose is False or not 0 <= whose < WORDS:
                    return None
                row.append(whose)
            elif isinstance(whose, str) and kind in kinds:
                owners = kinds[kind]
                if whose not in owners and not self.is_new(kind, whose):
                    return None
                row.append(owners[whose])
            else:
                return None
        return row

    def copied(self):
        """The same rules, to which others may be added; layers have the same numbers in both."""
        coded = Coded()
        coded.kinds = self.kinds
        coded.layers = self.layers
        coded.known = self.known
        coded.taken = {layer: index for layer, index in self.taken.items()}
        coded.freed = {layer: index for layer, index in self.freed.items()}
        coded.rest = list(self.rest)
        coded.idle = list(self.idle)
        return coded

    def note(self, index, takes, puts):
        """Notes what the rule of an index takes and puts, in numbers."""
        if not takes and len(puts) == 1 and puts[0] not in self.freed:
            self.freed[puts[0]] = index
        elif not puts and len(takes) == 1 and takes[0] not in self.taken:
            self.taken[takes[0]] = index
        else:
            self.rest.append((index, takes, puts))

    def note_all(self, thing):
        """Notes a list of rules; tells the index of the first thing that is none, 0 for no list, or None."""
        if not is_row(thing):
            return 0
        taken = self.taken
        freed = self.freed
        for index, rule in enumerate(thing):
            if not isinstance(rule, tuple) and not isinstance(rule, list) or len(rule) != 3:
                return index
            takes, puts, _ = rule
            # Most rules take nothing, or put nothing. Lists and tuples mean the same, empty ones too.
            takes = () if (isinstance(takes, list) or isinstance(takes, tuple)) and not takes else self.layers_in(takes)
            puts = () if (isinstance(puts, list) or isinstance(puts, tuple)) and not puts else self.layers_in(puts)
            if takes is None or puts is None:
                return index
            if takes:
                if not puts and len(takes) == 1 and takes[0] not in taken:
                    taken[takes[0]] = index
                    continue
            elif len(puts) == 1 and puts[0] not in freed:
                freed[puts[0]] = index
                continue
            self.rest.append((index, takes, puts))
        return None


def coded_rules(rules):
    """Plain rules in numbers."""
    coded = Coded()
    for index, (takes, puts, _) in enumerate(rules):
        coded.note(index, coded.code_row(takes) if takes else (), coded.code_row(puts) if puts else ())
    return coded

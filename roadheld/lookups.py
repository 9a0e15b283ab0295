"""Rules looked up one by one, as books and papers are judged: those of a list, those of a post and protocols."""

from roadheld.coding import WORD_LAYERS
from roadheld.dealing import plain_dealing
from roadheld.deeds import all_steps
from roadheld.rules import is_by_adversary


def controls_among(rows):
    """The beginnings of rows that are shorter than these, as keys of a dict; the empty one is there in any case."""
    known = {takes[:-1]: True for takes in rows}
    known[()] = True
    for takes in list(known):
        for length in range(1, len(takes)):
            known[takes[:length]] = True
    return known


class Listed:
    """The plain rules of a list."""

    def __init__(self, rules):
        self.rules = rules
        self.known = None

    def rule_at(self, index):
        """What the rule of an index takes and what it puts, as tuples; None if there is none."""
        if index >= len(self.rules):
            return None
        takes, puts, _ = self.rules[index]
        return (tuple(takes), tuple(puts))

    def is_control(self, control):
        """Whether layers are a control."""
        if self.known is None:
            self.known = controls_among([tuple(takes) for takes, _, _ in self.rules])
        return control in self.known


class Ruled:
    """The rules of a post's agents, of whom the adversary has some keys, and of protocols, in the order of rules_of.

    Protocols are a table of their steps by their names. What the answers take and put is made when it is asked for.
    """

    def __init__(self, agents, keys, table):
        self.agents = agents
        self.table = table
        self.dealing = None
        self.dealt = None
        self.hold(keys)

    def hold(self, keys):
        """Has the adversary have some keys, and no others."""
        self.keyring = keys
        self.answers = None
        self.known = None
        ciphers = [("cipher", agent) for agent in self.agents]
        labels = [("label", agent) for agent in self.agents]
        seals = [("seal", agent) for agent in self.agents]
        words = list(WORD_LAYERS)
        # What the adversary may put, and what it may take.
        self.puts = ciphers + labels + [key for key in keys if key[0] == "seal"] + words
        self.takes = [key for key in keys if key[0] == "cipher"] + labels + seals + words

    def deal(self, table):
        """Has other protocols stand there than before."""
        self.table = table
        self.dealt = None
        self.answers = None
        self.known = None

    def every_answer(self):
        """What the answers take and put, of those alike the first one; some may be alike to what the adversary does."""
        if self.dealt is None:
            if self.dealing is None:
                self.dealing = plain_dealing(self.agents)
            self.dealt = self.dealing.answers(self.table)
        return self.dealt

    def all_answers(self):
        """What the answers take and put, without what the adversary does, too."""
        if self.answers is None:
            self.answers = [(takes, puts) for takes, puts in self.every_answer()
                            if len(takes) + len(puts) != 1 or not is_by_adversary(takes, puts, self.keyring)]
        return self.answers

    def rule_at(self, index):
        """What the rule of an index takes and what it puts, as tuples; None if there is none."""
        if index < len(self.puts):
            return ((), (self.puts[index],))
        index -= len(self.puts)
        if index < len(self.takes):
            return ((self.takes[index],), ())
        index -= len(self.takes)
        answers = self.all_answers()
        return answers[index] if index < len(answers) else None

    def is_control(self, control):
        """Whether layers are a control."""
        if self.known is None:
            self.known = controls_among([takes for takes, _ in self.all_answers()])
        return control in self.known


def ruled_by(post, protocols):
    """The rules of a post and protocols."""
    return Ruled(post.agents(), post.keyring(), all_steps(protocols))

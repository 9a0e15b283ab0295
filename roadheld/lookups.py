"""Rules looked up one by one, as books and papers are judged: those of a list, those of a post and protocols."""

from roadheld.rules import is_by_adversary, rules_of_answers


def controls_among(rows):
    """The beginnings of rows that are shorter than these, as keys of a dict; the empty one is there in any case."""
    known = {takes[:-1]: True for takes in rows}
    known[()] = True
    for takes in list(known):
        for length in range(1, len(takes)):
            known[takes[:length]] = True
    return known


class Listed:
    """The plain rules of a list."""

    def __init__(self, rules):
        self.rules = rules
        self.known = None

    def rule_at(self, index):
        """What the rule of an index takes and what it puts, as tuples; None if there is none."""
        if index >= len(self.rules):
            return None
        takes, puts, _ = self.rules[index]
        return (tuple(takes), tuple(puts))

    def is_control(self, control):
        """Whether layers are a control."""
        if self.known is None:
            self.known = controls_among([tuple(takes) for takes, _, _ in self.rules])
        return control in self.known


def unlike_answers(agents, protocols):
    """What the answers of protocols take and put, as tuples; of those that take and put the same the first one."""
    return list({(tuple(takes), tuple(puts)): True for takes, puts, _ in rules_of_answers(agents, protocols)})


class Ruled:
    """The rules of a post's agents, of whom the adversary has some keys, and of protocols, in the order of rules_of.

    What the answers take and put is made when it is asked for, or handed in.
    """

    def __init__(self, agents, keys, protocols, dealt):
        self.agents = agents
        self.keyring = keys
        self.protocols = protocols
        self.dealt = dealt
        self.answers = None
        self.known = None
        ciphers = [("cipher", agent) for agent in agents]
        labels = [("label", agent) for agent in agents]
        seals = [("seal", agent) for agent in agents]
        words = [("word", number) for number in range(10)]
        # What the adversary may put, and what it may take.
        self.puts = ciphers + labels + [key for key in keys if key[0] == "seal"] + words
        self.takes = [key for key in keys if key[0] == "cipher"] + labels + seals + words

    def every_answer(self):
        """Rules of the answers, some of which may take and put the same, or what the adversary does, too."""
        return rules_of_answers(self.agents, self.protocols) if self.dealt is None else self.dealt

    def all_answers(self):
        """What the answers take and put, without what the adversary does, too."""
        if self.answers is None:
            if self.dealt is None:
                self.dealt = unlike_answers(self.agents, self.protocols)
            self.answers = [(takes, puts) for takes, puts in self.dealt
                            if len(takes) + len(puts) != 1 or not is_by_adversary(takes, puts, self.keyring)]
        return self.answers

    def rule_at(self, index):
        """What the rule of an index takes and what it puts, as tuples; None if there is none."""
        if index < len(self.puts):
            return ((), (self.puts[index],))
        index -= len(self.puts)
        if index < len(self.takes):
            return ((self.takes[index],), ())
        index -= len(self.takes)
        answers = self.all_answers()
        return answers[index] if index < len(answers) else None

    def is_control(self, control):
        """Whether layers are a control."""
        if self.known is None:
            self.known = controls_among([takes for takes, _ in self.all_answers()])
        return control in self.known


def ruled_by(post, protocols):
    """The rules of a post and protocols."""
    return Ruled(post.agents(), post.keyring(), protocols, None)

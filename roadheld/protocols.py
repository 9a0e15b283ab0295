"""Protocols: steps of two parts, dealt to agents, their texts, and their words called otherwise."""

from roadheld.errors import BadLayers, BadName, BadOne, BadOther, BadProtocol, BadSteps, BadWords, BadZero
from roadheld.forms import are_unlike, as_part_layers, as_step, is_agent, is_below, is_row
from roadheld.reading import Reader


def as_steps(steps):
    """The steps of a protocol as tuples of tuples."""
    if not is_row(steps) or len(steps) == 0:
        raise BadSteps(0)
    plain = []
    for index, thing in enumerate(steps):
        step = as_step(thing)
        if step is None:
            raise BadSteps(index)
        part, takes, puts = step
        if index == 0 and (part != 0 or takes):
            raise BadSteps(0)
        plain.append((part, tuple(takes), tuple(puts)))
    return tuple(plain)


class Proto:
    """A protocol: a name and steps."""

    def __init__(self, name, steps):
        if not is_agent(name):
            raise BadName(name)
        self._name = name
        self._steps = as_steps(steps)

    def name(self):
        """What the protocol is called."""
        return self._name

    def steps(self):
        """The steps, each a part, what it takes and what it puts."""
        return [(part, list(takes), list(puts)) for part, takes, puts in self._steps]

    def plain_steps(self):
        """The steps, tuples all through, to be read alone."""
        return self._steps

    def __eq__(self, other):
        return isinstance(other, Proto) and self._name == other._name and self._steps == other._steps


def deal(layers, zero, one):
    """Plain layers of parts as layers of agents."""
    return [(kind, whose if kind == "word" else one if whose else zero) for kind, whose in layers]


def dealt(layers, zero, one):
    """Layers of parts as layers of agents, one standing in each part."""
    plain = as_part_layers(layers)
    if plain is None:
        raise BadLayers(layers)
    if not is_agent(zero):
        raise BadZero(zero)
    if not is_agent(one) or one == zero:
        raise BadOne(one)
    return deal(plain, zero, one)


def checked_protocol(protocol):
    """A protocol, if it is one."""
    if not isinstance(protocol, Proto):
        raise BadProtocol(protocol)
    return protocol


def layers_text(layers):
    """The text of what a step takes or puts."""
    if not layers:
        return "nothing"
    return " , ".join([kind + " " + str(whose) for kind, whose in layers])


def step_text(step):
    """The text of a step, without the sign that ends it."""
    part, takes, puts = step
    return str(part) + " takes " + layers_text(takes) + " puts " + layers_text(puts)


def protocol_text(protocol):
    """The text of a protocol."""
    steps = [step_text(step) + " ; " for step in checked_protocol(protocol).plain_steps()]
    return "protocol " + protocol.name() + " { " + "".join(steps) + "}"


def read_step(reader):
    """Reads a step with the sign that ends it."""
    part = reader.read_below(2)
    reader.skip("takes")
    takes = reader.read_layers(True)
    reader.skip("puts")
    puts = reader.read_layers(True)
    reader.skip(";")
    return (part, takes, puts)


def read_protocol(text):
    """The protocol of such a text."""
    reader = Reader(text)
    reader.skip("protocol")
    name = reader.read_agent()
    reader.skip("{")
    steps = [read_step(reader)]
    while not reader.took("}"):
        steps.append(read_step(reader))
    reader.finish()
    return Proto(name, steps)


def all_layers(steps):
    """All layers of some steps, in the order in which they stand there."""
    layers = []
    for _, takes, puts in steps:
        layers.extend(takes)
        layers.extend(puts)
    return layers


def words_of(protocol):
    """The numbers of the words of a protocol, ascending."""
    numbers = {whose: True for kind, whose in all_layers(protocol.plain_steps()) if kind == "word"}
    return sorted(numbers)


def are_words(protocol, words):
    """Whether words lead from the words of a protocol, just these, to unlike numbers 0 to 9."""
    if not isinstance(words, dict):
        return False
    old = list(words.keys())
    new = list(words.values())
    if not all([is_below(number, 10) for number in old + new]):
        return False
    return sorted(old) == words_of(protocol) and are_unlike(new)


def called(layers, words):
    """Plain layers with their words called otherwise."""
    return [(kind, words[whose]) if kind == "word" else (kind, whose) for kind, whose in layers]


def with_words(protocol, words):
    """The protocol with its words called otherwise."""
    checked_protocol(protocol)
    if not are_words(protocol, words):
        raise BadWords(words)
    steps = [(part, called(takes, words), called(puts, words)) for part, takes, puts in protocol.plain_steps()]
    return Proto(protocol.name(), steps)


def words_apart(protocol, other):
    """The words by which a protocol has the steps of another one; None if there are none."""
    checked_protocol(protocol)
    if not isinstance(other, Proto):
        raise BadOther(other)
    words = {}
    for mine, its in zip(all_layers(protocol.plain_steps()), all_layers(other.plain_steps())):
        if mine[0] == "word":
            words[mine[1]] = its[1]
    # The words were matched layer by layer, whatever these are: what they make shows whether they are right.
    if not are_words(protocol, words) or with_words(protocol, words).plain_steps() != other.plain_steps():
        return None
    return words

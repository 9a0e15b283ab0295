"""What things are by their form: each function takes any object and tells a plain copy of it, or None.

Nothing is compared before its class is known, so that no object, whatever it is, can bring about an error.
"""

RESERVED = {"cipher": True, "seal": True, "label": True, "word": True, "nothing": True, "takes": True, "puts": True,
            "protocol": True}
LONGEST_AGENT = 8
OWNED = ("cipher", "seal", "label")
KEYS = ("cipher", "seal")
# How many words there are.
WORDS = 10


def is_row(thing):
    """Whether a thing is a list, in the wide sense: lists and tuples mean the same."""
    return isinstance(thing, (list, tuple))


def is_pair(thing):
    """Whether a thing is a list of two."""
    return is_row(thing) and len(thing) == 2


def is_integer(thing):
    """Whether a thing is an int that is no bool."""
    return isinstance(thing, int) and not isinstance(thing, bool)


def is_number(thing):
    """Whether a thing is an integer from 0 on."""
    return is_integer(thing) and thing >= 0


def is_below(thing, many):
    """Whether a thing is a number below many: an index, a state."""
    return is_number(thing) and thing < many


def is_agents_text(text):
    """Whether a text is an agent's."""
    if len(text) > LONGEST_AGENT or not text.islower() or not text.isalpha() or not text.isascii():
        return False
    return text not in RESERVED


def is_agent(thing):
    """Whether a thing is an agent's text."""
    return isinstance(thing, str) and is_agents_text(thing)


def as_agents(thing):
    """A list of unlike agents, as a new list; None for anything else."""
    if not is_row(thing) or not all([is_agent(agent) for agent in thing]):
        return None
    return list(thing) if are_unlike(thing) else None


def are_unlike(things):
    """Whether no two of some plain things, all of which can be keys, are equal."""
    return len({thing: True for thing in things}) == len(things)


def as_known_layer(thing, known, more):
    """A layer of known agents as a tuple; where more is True of others, too, which are noted."""
    if not isinstance(thing, tuple) and not isinstance(thing, list) or len(thing) != 2:
        return None
    kind, whose = thing
    if not isinstance(kind, str):
        return None
    if kind == "word":
        if not isinstance(whose, int) or whose is True or whose is False or not 0 <= whose < WORDS:
            return None
    elif not isinstance(whose, str) or kind not in OWNED:
        return None
    elif whose not in known:
        if not more or not is_agents_text(whose):
            return None
        known[whose] = True
    return (kind, whose)


def as_layer(thing, agents):
    """A layer as a tuple; of one of agents, or, where agents is None, of any agent."""
    return as_known_layer(thing, {}, True) if agents is None else as_known_layer(thing, agents, False)


def as_known_layers(thing, known, more):
    """A list of layers, each as as_known_layer tells it, as a list; None for anything else.

    All rules, layers and messages that are handed in come through here, layer by layer, so this is written to be
    done fast: an agent is looked at sign by sign once.
    """
    if not isinstance(thing, list) and not isinstance(thing, tuple):
        return None
    layers = []
    for layer in thing:
        if not isinstance(layer, tuple) and not isinstance(layer, list) or len(layer) != 2:
            return None
        kind, whose = layer
        if not isinstance(kind, str):
            return None
        if kind == "word":
            if not isinstance(whose, int) or whose is True or whose is False or not 0 <= whose < WORDS:
                return None
        elif not isinstance(whose, str) or kind not in OWNED:
            return None
        elif whose not in known:
            if not more or not is_agents_text(whose):
                return None
            known[whose] = True
        layers.append((kind, whose))
    return layers


def as_layers(thing, agents):
    """A list of layers, each as a tuple; of agents, or, where agents is None, of any agents."""
    return as_known_layers(thing, {}, True) if agents is None else as_known_layers(thing, agents, False)


def as_keys(thing, agents):
    """A list of unlike keys of some agents, each as a tuple."""
    keys = as_layers(thing, {agent: True for agent in agents})
    if keys is None or not all([kind in KEYS for kind, _ in keys]):
        return None
    return keys if are_unlike(keys) else None


def as_known_message(thing, known, more):
    """A message, its layers as as_known_layers tells, as a tuple."""
    if not isinstance(thing, tuple) and not isinstance(thing, list) or len(thing) != 2:
        return None
    layers, core = thing
    if not isinstance(core, int) or isinstance(core, bool):
        return None
    plain = as_known_layers(layers, known, more)
    return None if plain is None else (plain, core)


def as_message(thing, agents):
    """A message, its layers as a list, as a tuple."""
    return as_known_message(thing, {}, True) if agents is None else as_known_message(thing, agents, False)


def as_messages(thing, agents):
    """A list of messages."""
    if not is_row(thing):
        return None
    known = {} if agents is None else agents
    messages = []
    for message in thing:
        plain = as_known_message(message, known, agents is None)
        if plain is None:
            return None
        messages.append(plain)
    return messages


def is_part(thing):
    """Whether a thing is one of the integers 0 and 1."""
    return is_below(thing, 2)


def as_part_layers(thing):
    """A list of layers of parts, each as a tuple."""
    if not isinstance(thing, (list, tuple)):
        return None
    layers = []
    for layer in thing:
        if not isinstance(layer, (list, tuple)) or len(layer) != 2:
            return None
        kind, whose = layer
        if not isinstance(kind, str) or not isinstance(whose, int) or isinstance(whose, bool):
            return None
        if not 0 <= whose < (WORDS if kind == "word" else 2) or kind != "word" and kind not in OWNED:
            return None
        layers.append((kind, whose))
    return layers


def as_step(thing):
    """A step as a tuple, its layers as lists."""
    if not is_row(thing) or len(thing) != 3 or not is_part(thing[0]):
        return None
    part = thing[0]
    takes = as_part_layers(thing[1])
    puts = as_part_layers(thing[2])
    if takes is None or puts is None:
        return None
    if ("cipher", 1 - part) in takes or ("seal", 1 - part) in puts:
        return None
    return (part, takes, puts)


def rules_in(thing, known):
    """A list of rules, their layers as lists, their third parts the very objects, and None.

    None, and the index of the first thing that is no rule, 0 for no list, of anything else. Agents are noted as known.
    """
    if not is_row(thing):
        return (None, 0)
    rules = []
    for rule in thing:
        if not isinstance(rule, tuple) and not isinstance(rule, list) or len(rule) != 3:
            return (None, len(rules))
        takes, puts, third = rule
        takes = as_known_layers(takes, known, True)
        puts = as_known_layers(puts, known, True)
        if takes is None or puts is None:
            return (None, len(rules))
        rules.append((takes, puts, third))
    return (rules, None)


def begins_with(layers, takes):
    """Whether some plain layers have others on top."""
    return layers[:len(takes)] == takes

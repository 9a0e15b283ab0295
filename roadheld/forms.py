"""What things are by their form: each function takes any object and tells a plain copy of it, or None.

Nothing is compared before its class is known, so that no object, whatever it is, can bring about an error.
"""

RESERVED = ("cipher", "seal", "label", "word", "nothing", "takes", "puts", "protocol")
LONGEST_AGENT = 8
OWNED = ("cipher", "seal", "label")
KEYS = ("cipher", "seal")


def is_row(thing):
    """Whether a thing is a list, in the wide sense: lists and tuples mean the same."""
    return isinstance(thing, (list, tuple))


def is_pair(thing):
    """Whether a thing is a list of two."""
    return is_row(thing) and len(thing) == 2


def is_integer(thing):
    """Whether a thing is an int that is no bool."""
    return isinstance(thing, int) and not isinstance(thing, bool)


def is_number(thing):
    """Whether a thing is an integer from 0 on."""
    return is_integer(thing) and thing >= 0


def is_below(thing, many):
    """Whether a thing is a number below many: an index, a state."""
    return is_number(thing) and thing < many


def is_agent(thing):
    """Whether a thing is an agent's text."""
    if not isinstance(thing, str) or not 1 <= len(thing) <= LONGEST_AGENT:
        return False
    if not all(["a" <= sign <= "z" for sign in thing]):
        return False
    return thing not in RESERVED


def as_agents(thing):
    """A list of unlike agents, as a new list; None for anything else."""
    if not is_row(thing) or not all([is_agent(agent) for agent in thing]):
        return None
    return list(thing) if are_unlike(thing) else None


def are_unlike(things):
    """Whether no two of some plain things, all of which can be keys, are equal."""
    return len({thing: True for thing in things}) == len(things)


def as_layer(thing, agents):
    """A layer as a tuple; of one of agents, or, where agents is None, of any agent."""
    if not is_pair(thing) or not isinstance(thing[0], str):
        return None
    kind, whose = thing
    if kind == "word":
        return (kind, whose) if is_below(whose, 10) else None
    if kind not in OWNED or not is_agent(whose):
        return None
    return (kind, whose) if agents is None or whose in agents else None


def as_layers(thing, agents):
    """A list of layers, each as a tuple."""
    if not is_row(thing):
        return None
    layers = [as_layer(layer, agents) for layer in thing]
    return None if None in layers else layers


def as_keys(thing, agents):
    """A list of unlike keys of some agents, each as a tuple."""
    keys = as_layers(thing, {agent: True for agent in agents})
    if keys is None or not all([kind in KEYS for kind, _ in keys]):
        return None
    return keys if are_unlike(keys) else None


def as_message(thing, agents):
    """A message, its layers as a list, as a tuple."""
    if not is_pair(thing) or not is_integer(thing[1]):
        return None
    layers = as_layers(thing[0], agents)
    return None if layers is None else (layers, thing[1])


def as_messages(thing, agents):
    """A list of messages."""
    if not is_row(thing):
        return None
    messages = [as_message(message, agents) for message in thing]
    return None if None in messages else messages


def is_part(thing):
    """Whether a thing is one of the integers 0 and 1."""
    return is_below(thing, 2)


def as_part_layer(thing):
    """A layer of parts, as a tuple."""
    if not is_pair(thing) or not isinstance(thing[0], str):
        return None
    kind, whose = thing
    if kind == "word":
        return (kind, whose) if is_below(whose, 10) else None
    return (kind, whose) if kind in OWNED and is_part(whose) else None


def as_part_layers(thing):
    """A list of layers of parts, each as a tuple."""
    if not is_row(thing):
        return None
    layers = [as_part_layer(layer) for layer in thing]
    return None if None in layers else layers


def as_step(thing):
    """A step as a tuple, its layers as lists."""
    if not is_row(thing) or len(thing) != 3 or not is_part(thing[0]):
        return None
    part = thing[0]
    takes = as_part_layers(thing[1])
    puts = as_part_layers(thing[2])
    if takes is None or puts is None:
        return None
    if ("cipher", 1 - part) in takes or ("seal", 1 - part) in puts:
        return None
    return (part, takes, puts)


def as_rule(thing):
    """A rule as a tuple, its layers as lists, its third part the very object."""
    if not is_row(thing) or len(thing) != 3:
        return None
    takes = as_layers(thing[0], None)
    puts = as_layers(thing[1], None)
    return None if takes is None or puts is None else (takes, puts, thing[2])


def wrong_rule(thing):
    """The index of the first thing of a list that is no rule, 0 for no list; None where all are rules."""
    if not is_row(thing):
        return 0
    for index, rule in enumerate(thing):
        if as_rule(rule) is None:
            return index
    return None


def as_rules(thing):
    """A list, in which wrong_rule finds nothing wrong, as a list of rules."""
    return [as_rule(rule) for rule in thing]


def begins_with(layers, takes):
    """Whether some plain layers have others on top."""
    return layers[:len(takes)] == takes

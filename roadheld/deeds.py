"""Deeds on messages: what comes of one, or why it is refused."""

from roadheld.forms import as_layer, begins_with, is_below, is_integer, is_row
from roadheld.protocols import deal

LENGTHS = {"begin": 5, "answer": 6, "put": 3, "take": 3, "own": 2}
MOVES = ("put", "take", "answer")


def all_steps(protocols):
    """The steps of protocols by their names."""
    return {protocol.name(): protocol.plain_steps() for protocol in protocols}


def is_deed(thing):
    """Whether a thing is a deed by its word, how many parts it has, and its core."""
    if not is_row(thing) or len(thing) == 0 or not isinstance(thing[0], str):
        return False
    if thing[0] not in LENGTHS or len(thing) != LENGTHS[thing[0]]:
        return False
    return thing[0] not in ("begin", "own") or is_integer(thing[-1])


def are_two(agents, agent, partner):
    """Whether two things are unlike ones of some agents."""
    if not isinstance(agent, str) or not isinstance(partner, str):
        return False
    return agent in agents and partner in agents and agent != partner


def dealt_step(step, agent, partner):
    """What a step takes and puts, agent standing in its part, partner in the other one."""
    part, takes, puts = step
    zero, one = (agent, partner) if part == 0 else (partner, agent)
    return (deal(takes, zero, one), deal(puts, zero, one))


def why_no_step(agents, table, deed):
    """Why a begin or an answer is refused by its name, its agents or its step; None if by none of these."""
    name, agent, partner = deed[1:4]
    if not isinstance(name, str) or name not in table:
        return "protocol"
    if not are_two(agents, agent, partner):
        return "agents"
    if deed[0] == "answer" and (not is_below(deed[4], len(table[name])) or deed[4] == 0):
        return "step"
    return None


def begun(agents, table, deed):
    """What comes of a begin."""
    why = why_no_step(agents, table, deed)
    if why is not None:
        return ("refused", why)
    _, puts = dealt_step(table[deed[1]][0], deed[2], deed[3])
    return ("held", (puts, deed[4]))


def laid_on(message, takes, puts):
    """What comes of a message if some layers are taken off and others put on."""
    layers, core = message
    if not begins_with(layers, takes):
        return ("refused", "top")
    return ("held", (puts + layers[len(takes):], core))


def answered(agents, table, messages, deed):
    """What comes of an answer."""
    why = why_no_step(agents, table, deed)
    if why is not None:
        return ("refused", why)
    if not is_below(deed[5], len(messages)):
        return ("refused", "index")
    takes, puts = dealt_step(table[deed[1]][deed[4]], deed[2], deed[3])
    return laid_on(messages[deed[5]], takes, puts)


def by_adversary(agents, keys, messages, deed):
    """What comes of a put or a take of the adversary."""
    word, thing, index = deed
    layer = as_layer(thing, agents)
    if layer is None:
        return ("refused", "layer")
    if not is_below(index, len(messages)):
        return ("refused", "index")
    locked = "seal" if word == "put" else "cipher"
    if layer[0] == locked and layer not in keys:
        return ("refused", "may")
    if word == "put":
        return laid_on(messages[index], [], [layer])
    return laid_on(messages[index], [layer], [])


def deed_done(post, table, messages, deed):
    """What comes of any object as a deed, on plain messages, with the steps of protocols by their names."""
    if not is_deed(deed):
        return ("refused", "form")
    word = deed[0]
    if word == "own":
        return ("held", ([], deed[1]))
    if word == "begin":
        return begun(post.agents(), table, deed)
    if word == "answer":
        return answered(post.agents(), table, messages, deed)
    return by_adversary(post.agents(), post.keyring(), messages, deed)


def move_done(post, table, message, move):
    """What comes of any object as a move on a plain message."""
    if not is_row(move) or len(move) == 0 or not isinstance(move[0], str) or move[0] not in MOVES:
        return ("refused", "form")
    return deed_done(post, table, [message], list(move) + [0])

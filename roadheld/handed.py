"""What is handed in, looked at once: each function tells a plain copy, or refuses what is wrong."""

from roadheld.agents import Post
from roadheld.coding import Coded
from roadheld.errors import BadLayers, BadMessages, BadMost, BadPost, BadProtocols, BadRules
from roadheld.forms import are_unlike, as_layers, as_messages, is_integer, is_number, is_pair, is_row, rules_in
from roadheld.protocols import Proto


def checked_post(post):
    """A post, if it is one."""
    if not isinstance(post, Post):
        raise BadPost(post)
    return post


def are_protocols(thing):
    """Whether a thing is a list of protocols of unlike names."""
    if not is_row(thing) or not all([isinstance(protocol, Proto) for protocol in thing]):
        return False
    return are_unlike([protocol.name() for protocol in thing])


def checked_protocols(protocols):
    """Protocols of unlike names, as a list."""
    if not are_protocols(protocols):
        raise BadProtocols(protocols)
    return list(protocols)


def checked_messages(messages, agents):
    """Messages, over some agents, or any where agents is None."""
    plain = as_messages(messages, agents)
    if plain is None:
        raise BadMessages(messages)
    return plain


def checked_question(post, protocols, messages):
    """The layers and cores of the messages of a question."""
    checked_post(post)
    checked_protocols(protocols)
    return checked_messages(messages, post.agents())


def as_question(thing):
    """A triple of a post, protocols, and messages over its agents, as a plain copy; None for anything else."""
    if not is_row(thing) or len(thing) != 3:
        return None
    post, protocols, messages = thing
    if not isinstance(post, Post) or not are_protocols(protocols):
        return None
    plain = as_messages(messages, post.agents())
    return None if plain is None else (post, list(protocols), plain)


def checked_layers(layers):
    """Layers of any agents."""
    plain = as_layers(layers, None)
    if plain is None:
        raise BadLayers(layers)
    return plain


def coded_of(rules):
    """Rules over any agents' layers, in numbers."""
    coded = Coded()
    wrong = coded.note_all(rules)
    if wrong is not None:
        raise BadRules(wrong)
    return coded


def checked_row(coded, layers):
    """Layers of any agents, in the numbers of rules."""
    row = coded.layers_in(layers)
    if row is None:
        raise BadLayers(layers)
    return row


def checked_rows(coded, messages):
    """The layers of messages of any agents, in the numbers of rules."""
    rows = []
    for message in messages if is_row(messages) else [None]:
        if not is_pair(message) or not is_integer(message[1]):
            raise BadMessages(messages)
        row = coded.layers_in(message[0])
        if row is None:
            raise BadMessages(messages)
        rows.append(row)
    return rows


def known_rules(rules, known):
    """Rules over any agents' layers; the agents are noted as known."""
    plain, wrong = rules_in(rules, known)
    if wrong is not None:
        raise BadRules(wrong)
    return plain


def checked_rules(rules):
    """Rules over any agents' layers."""
    return known_rules(rules, {})


def checked_most(most):
    """The most that is asked for."""
    if not is_number(most):
        raise BadMost(most)
    return most

"""The lines of a question, as they stand at the begin of audits and of the texts of desks."""

from roadheld.agents import Post
from roadheld.errors import ProtocolError
from roadheld.forms import as_agents, as_message
from roadheld.lines import layer_of_words
from roadheld.messages import message_text, read_message, row_text
from roadheld.protocols import protocol_text, read_protocol


def agents_line(agents):
    """The line of some agents."""
    return "agents " + ", ".join(agents)


def keys_line(keys):
    """The line of some keys."""
    return "keys " + row_text(keys)


def question_lines(post, protocols, messages):
    """The lines of a question."""
    lines = [agents_line(post.agents()), keys_line(post.keyring())]
    lines.extend([protocol_text(protocol) for protocol in protocols])
    lines.extend(["message " + message_text(message) for message in messages])
    return lines


def ended_lines(text):
    """The lines of a text that are ended, and how what is left of it, the empty text at best, is written."""
    lines = text.split("\n")
    return (lines[:-1], lines[-1])


def agents_in_line(line):
    """The agents that a line tells; None for any other line."""
    agents = as_agents(line[len("agents "):].split(", "))
    return agents if agents is not None and agents_line(sorted(agents)) == line else None


def layer_in_text(text, agents):
    """The layer of a text, of one of agents; None for any other text."""
    words = text.split(" ")
    return layer_of_words(words[0], words[1], agents) if len(words) == 2 else None


def post_in_line(line, agents):
    """The post of some agents, and of the keys that a line tells; None for any other line."""
    keys = [layer_in_text(text, agents) for text in line[len("keys "):].split(", ")]
    try:
        post = Post(agents, keys)
    except ProtocolError:
        return None
    return post if keys_line(post.keyring()) == line else None


def protocol_in_text(text):
    """The protocol of a text that is written just so; None for any other text."""
    try:
        protocol = read_protocol(text)
    except ProtocolError:
        return None
    return protocol if protocol_text(protocol) == text else None


def message_in_text(text, agents):
    """The message, over agents, of a text that is written just so; None for any other text."""
    try:
        message = read_message(text)
    except ProtocolError:
        return None
    return message if as_message(message, agents) is not None and message_text(message) == text else None


def question_of_lines(lines):
    """The question with which lines begin, and the index of the first line behind it.

    None, and the index of the first line that is wrong, if they begin with none.
    """
    agents = agents_in_line(lines[0]) if lines else None
    if agents is None:
        return (None, 0)
    post = post_in_line(lines[1], agents) if len(lines) > 1 else None
    if post is None:
        return (None, 1)
    at = 2
    protocols = []
    names = []
    while at < len(lines):
        protocol = protocol_in_text(lines[at])
        if protocol is None or protocol.name() in names:
            break
        protocols.append(protocol)
        names.append(protocol.name())
        at += 1
    messages = []
    while at < len(lines) and lines[at].startswith("message "):
        message = message_in_text(lines[at][len("message "):], agents)
        if message is None:
            break
        messages.append(message)
        at += 1
    return ((post, protocols, messages), at)

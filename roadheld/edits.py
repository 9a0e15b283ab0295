"""Edits of a question, a triple of a post, protocols and messages: what comes of one, what it is called, its text."""

from roadheld.agents import Post, has_own_agent
from roadheld.errors import ProtocolError
from roadheld.forms import KEYS, as_layer, as_message, as_step, is_agent, is_below, is_row
from roadheld.lines import is_numeral
from roadheld.messages import layer_text, message_text
from roadheld.protocols import Proto, protocol_text, read_step, step_text
from roadheld.questiontexts import layer_in_text, message_in_text, protocol_in_text
from roadheld.reading import Reader

CALLED = {"hire": "more", "give": "more", "add": "more", "message": "more", "lock": "less", "drop": "less",
          "burn": "less", "step": "other"}


def hired(question, edit):
    """The edit that hires an agent, and the question behind it; None if it is none."""
    post, protocols, messages = question
    agent = edit[1]
    if not is_agent(agent) or agent in post.agents():
        return None
    return (("hire", agent), (Post(post.agents() + [agent], post.keyring()), protocols, messages))


def as_key(post, thing):
    """A key of an agent of a post, as a tuple; None for anything else."""
    key = as_layer(thing, post.agents())
    return key if key is not None and key[0] in KEYS else None


def given(question, edit):
    """The edit that gives the adversary a key, and the question behind it; None if it is none."""
    post, protocols, messages = question
    key = as_key(post, edit[1])
    if key is None or key in post.keyring():
        return None
    return (("give", key), (Post(post.agents(), post.keyring() + [key]), protocols, messages))


def locked(question, edit):
    """The edit that takes a key from the adversary, and the question behind it; None if it is none."""
    post, protocols, messages = question
    key = as_key(post, edit[1])
    left = [other for other in post.keyring() if other != key]
    if key not in post.keyring() or not has_own_agent(post.agents(), left):
        return None
    return (("lock", key), (Post(post.agents(), left), protocols, messages))


def place_of(protocols, name):
    """The index of the protocol of a name, None if there is none."""
    names = [protocol.name() for protocol in protocols]
    return names.index(name) if isinstance(name, str) and name in names else None


def added(question, edit):
    """The edit that adds a protocol, and the question behind it; None if it is none."""
    post, protocols, messages = question
    protocol = edit[1]
    if not isinstance(protocol, Proto) or place_of(protocols, protocol.name()) is not None:
        return None
    return (("add", protocol), (post, protocols + [protocol], messages))


def dropped(question, edit):
    """The edit that drops a protocol, and the question behind it; None if it is none."""
    post, protocols, messages = question
    at = place_of(protocols, edit[1])
    if at is None:
        return None
    return (("drop", edit[1]), (post, protocols[:at] + protocols[at + 1:], messages))


def sent(question, edit):
    """The edit that puts a message behind the others, and the question behind it; None if it is none."""
    post, protocols, messages = question
    message = as_message(edit[1], post.agents())
    return None if message is None else (("message", message), (post, protocols, messages + [message]))


def burnt(question, edit):
    """The edit that takes a message out, and the question behind it; None if it is none."""
    post, protocols, messages = question
    at = edit[1]
    if not is_below(at, len(messages)):
        return None
    return (("burn", at), (post, protocols, messages[:at] + messages[at + 1:]))


def stepped(question, edit):
    """The edit that puts a step in the place of another one, and the question behind it; None if it is none."""
    post, protocols, messages = question
    _, name, number, thing = edit
    at = place_of(protocols, name)
    step = as_step(thing)
    if at is None or step is None:
        return None
    steps = protocols[at].steps()
    if not is_below(number, len(steps)) or number == 0 and (step[0] != 0 or step[1]):
        return None
    protocol = Proto(name, steps[:number] + [step] + steps[number + 1:])
    return (("step", name, number, step), (post, protocols[:at] + [protocol] + protocols[at + 1:], messages))


EDITS = {"hire": hired, "give": given, "lock": locked, "add": added, "drop": dropped, "message": sent, "burn": burnt,
         "step": stepped}


def edited(question, thing):
    """Any object as a plain edit of a question, and the question behind it; None if it is none."""
    if not is_row(thing) or len(thing) == 0 or not isinstance(thing[0], str) or thing[0] not in EDITS:
        return None
    if len(thing) != (4 if thing[0] == "step" else 2):
        return None
    edit_of = EDITS[thing[0]]
    return edit_of(question, thing)


def copied_edit(edit):
    """A plain edit with lists of its own."""
    if edit[0] == "message":
        layers, core = edit[1]
        return ("message", (list(layers), core))
    if edit[0] == "step":
        part, takes, puts = edit[3]
        return ("step", edit[1], edit[2], (part, list(takes), list(puts)))
    return edit


def edit_text(edit):
    """The text of a plain edit."""
    word = edit[0]
    if word == "step":
        return "step " + edit[1] + " " + str(edit[2]) + " " + step_text(edit[3])
    if word in ("give", "lock"):
        return word + " " + layer_text(edit[1])
    if word == "add":
        return word + " " + protocol_text(edit[1])
    return word + " " + (message_text(edit[1]) if word == "message" else str(edit[1]))


def step_in_text(text):
    """The step of a text; None for any other text."""
    reader = Reader(text + " ;")
    try:
        step = read_step(reader)
        reader.finish()
    except ProtocolError:
        return None
    return step


def parts_in_text(word, text, agents):
    """What stands behind the word of an edit in its text, None for what is none there."""
    if word in ("give", "lock"):
        return [layer_in_text(text, agents)]
    if word == "add":
        return [protocol_in_text(text)]
    if word == "message":
        return [message_in_text(text, agents)]
    if word == "burn":
        return [int(text) if is_numeral(text) else None]
    if word == "step":
        name, _, rest = text.partition(" ")
        numeral, _, step = rest.partition(" ")
        return [name, int(numeral) if is_numeral(numeral) else None, step_in_text(step)]
    return [text]


def edited_by_text(question, text):
    """The edit of a text that is written just so, and the question behind it; None for any other text."""
    word, _, rest = text.partition(" ")
    found = edited(question, [word] + parts_in_text(word, rest, question[0].agents()))
    return found if found is not None and edit_text(found[0]) == text else None

"""What the adversary holds: deeds, logs of them, and who is through."""

from roadheld.deeds import all_steps, deed_done
from roadheld.errors import BadLog
from roadheld.forms import is_row
from roadheld.handed import checked_messages, checked_post, checked_protocols


def done(post, protocols, messages, deed):
    """What comes of a deed on held messages: a message, or why it is refused."""
    checked_post(post)
    table = all_steps(checked_protocols(protocols))
    held = checked_messages(messages, post.agents())
    return deed_done(post, table, held, deed)


def played(post, protocols, log):
    """What a log holds as far as no deed is refused, and the index and why of the one that is, or None."""
    checked_post(post)
    table = all_steps(checked_protocols(protocols))
    if not is_row(log):
        raise BadLog(log)
    held = []
    for index, deed in enumerate(log):
        word, told = deed_done(post, table, held, deed)
        if word == "refused":
            return (held, (index, told))
        held.append(told)
    return (held, None)


def refused(post, protocols, log):
    """The index of the first deed of a log that is refused, and why; None if none is."""
    _, wrong = played(post, protocols, log)
    return wrong


def held_by(post, protocols, log):
    """The messages held behind a log."""
    held, wrong = played(post, protocols, log)
    if wrong is not None:
        raise BadLog(log)
    return held


def last_steps(steps):
    """The index of the last step of each part that has one."""
    lasts = {}
    for index, step in enumerate(steps):
        lasts[step[0]] = index
    return lasts


def through(post, protocols, log):
    """Who is through with which protocol and partner, in which part, by which message."""
    held_by(post, protocols, log)
    table = all_steps(protocols)
    rows = []
    for index, deed in enumerate(log):
        if deed[0] not in ("begin", "answer"):
            continue
        steps = table[deed[1]]
        number = deed[4] if deed[0] == "answer" else 0
        part = steps[number][0]
        if last_steps(steps)[part] == number:
            rows.append((deed[1], deed[2], deed[3], part, index))
    return rows

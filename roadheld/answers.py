"""Whether one of some messages ever comes bare: a book of deeds, or a paper, just one of the two."""

from roadheld.errors import BadOther
from roadheld.handed import as_question, checked_question
from roadheld.lookups import ruled_by
from roadheld.rules import rules_of
from roadheld.settling import as_answer, settled


def answer_for(post, protocols, messages):
    """How one of messages comes bare by the fewest moves, or a paper by which none ever does."""
    held = checked_question(post, protocols, messages)
    return settled(rules_of(post, protocols), held)


def is_answer(post, protocols, messages, thing):
    """Whether any object is a right answer."""
    held = checked_question(post, protocols, messages)
    return as_answer(ruled_by(post, protocols), held, thing) is not None


def all_done(post, protocols):
    """What all rules of a post and protocols take and put, as keys of a dict."""
    return {(tuple(takes), tuple(puts)): True for takes, puts, _ in rules_of(post, protocols)}


def all_sent(messages):
    """Plain messages as keys of a dict."""
    return {(tuple(layers), core): True for layers, core in messages}


def is_more(post, protocols, messages, other):
    """Whether a question has all messages and all rules of another one."""
    held = checked_question(post, protocols, messages)
    question = as_question(other)
    if question is None:
        raise BadOther(other)
    its_post, its_protocols, its_held = question
    sent = all_sent(held)
    if not all([message in sent for message in all_sent(its_held)]):
        return False
    mine = all_done(post, protocols)
    return all([rule in mine for rule in all_done(its_post, its_protocols)])

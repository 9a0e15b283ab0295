"""Answers to whether plain messages ever come bare: which one is due, and whether something is one."""

from roadheld.bookrows import are_right_rows, as_book, as_indexes, counts_of, go_through, written
from roadheld.coding import coded_rules
from roadheld.forms import is_below, is_number, is_row
from roadheld.growth import grow_rows
from roadheld.papers import is_ruled_paper
from roadheld.tracing import Traced
from roadheld.walks import as_machine


def settled(rules, messages):
    """The answer to whether one of messages ever comes bare by rules."""
    coded = coded_rules(rules)
    rows = [coded.code_row(layers) for layers, _ in messages]
    traced = Traced(coded, None, rows)
    best = traced.solver.nearest(rows)
    if best is None:
        return ("safe", grow_rows(coded, messages))
    number, index = best
    book, used = written(traced, traced.drops_down(rows[index]))
    return ("bare", index, number, book, used)


def as_bare(ruled, messages, thing):
    """An answer of the word bare as a plain copy; None for a list of five that is none."""
    _, index, number, rest, last = thing
    if not is_below(index, len(messages)) or not is_number(number):
        return None
    if not is_row(last) or len(last) != len(messages[index][0]):
        return None
    # The rules are looked up last, since what is bent is mostly wrong before.
    book = as_book(rest)
    used = None if book is None else as_indexes(last, len(book))
    if used is None or not go_through(book, used, messages[index][0], ()):
        return None
    counted = counts_of(book)
    if number != sum([counted[at] for at in used]) or not are_right_rows(ruled, book):
        return None
    return ("bare", index, number, book, used)


def as_safe(ruled, messages, thing):
    """An answer of the word safe as a plain copy; None for a list of two that is none."""
    machine = as_machine(thing[1])
    return ("safe", machine) if machine is not None and is_ruled_paper(ruled, messages, machine) else None


def as_answer(ruled, messages, thing):
    """An answer to whether one of messages ever comes bare by rules that are looked up, as a plain copy.

    None for any other object.
    """
    if not is_row(thing) or len(thing) == 0 or not isinstance(thing[0], str):
        return None
    if thing[0] == "bare" and len(thing) == 5:
        return as_bare(ruled, messages, thing)
    if thing[0] == "safe" and len(thing) == 2:
        return as_safe(ruled, messages, thing)
    return None


def copied_answer(answer):
    """A plain answer with lists of its own."""
    if answer[0] == "safe":
        many, firsts, rows, ends = answer[1]
        return ("safe", (many, list(firsts), list(rows), list(ends)))
    _, index, number, book, used = answer
    return ("bare", index, number, [(drop, rule, list(indexes)) for drop, rule, indexes in book], list(used))

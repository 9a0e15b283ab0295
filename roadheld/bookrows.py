"""Books by their form, whether their rows are right, and books written of what was solved."""

from roadheld.forms import as_known_layer, as_known_layers, is_row
from roadheld.lookups import Listed


def as_known_drop(thing, known):
    """A triple of a list of layers, a layer, a list of layers, its lists as tuples; None for anything else.

    The agents that are known need not be looked at; others are noted.
    """
    if not isinstance(thing, tuple) and not isinstance(thing, list) or len(thing) != 3:
        return None
    control, part, behind = thing
    layer = as_known_layer(part, known, True)
    if not isinstance(control, tuple) or control:
        control = as_known_layers(control, known, True)
    if not isinstance(behind, tuple) or behind:
        behind = as_known_layers(behind, known, True)
    if control is None or layer is None or behind is None:
        return None
    return (tuple(control), layer, tuple(behind))


def as_indexes(thing, many):
    """A list of numbers below many, as a new list; None for anything else."""
    if not isinstance(thing, list) and not isinstance(thing, tuple):
        return None
    for index in thing:
        if not isinstance(index, int) or index is True or index is False or not 0 <= index < many:
            return None
    return list(thing)


def as_known_book(thing, known):
    """A list of rows by their form, each with indexes of rows ahead of it; None for anything else.

    Books are judged again and again, so this is written to be done fast; agents that are known need not be looked at.
    """
    if not is_row(thing):
        return None
    book = []
    for row in thing:
        if not isinstance(row, tuple) and not isinstance(row, list) or len(row) != 3:
            return None
        drop, rule, used = row
        drop = as_known_drop(drop, known)
        if drop is None or not isinstance(used, list) and not isinstance(used, tuple):
            return None
        if rule is not None and (not isinstance(rule, int) or rule is True or rule is False or rule < 0):
            return None
        for index in used:
            if not isinstance(index, int) or index is True or index is False or not 0 <= index < len(book):
                return None
        book.append((drop, rule, list(used)))
    return book


def as_book(thing):
    """A list of rows by their form, each with indexes of rows ahead of it; None for anything else."""
    return as_known_book(thing, {})


def go_through(book, used, layers, behind):
    """Whether the drops of used rows of a book go through plain layers, from nothing held back to behind."""
    if len(used) != len(layers):
        return False
    control = ()
    for index, layer in zip(used, layers):
        ahead, its, further = book[index][0]
        if its != layer or ahead != control:
            return False
        control = further
    return control == behind


def is_right_row(looked, book, row):
    """Whether a plain row of a book is one of rules that are looked up."""
    (control, layer, behind), rule, used = row
    if rule is None:
        return not used and behind == control + (layer,) and looked.is_control(behind)
    found = looked.rule_at(rule)
    if found is None:
        return False
    takes, puts = found
    if takes:
        return takes == control + (layer,) and go_through(book, used, puts, behind)
    return control == () and go_through(book, used, puts + (layer,), behind)


def are_right_rows(looked, book):
    """Whether all rows of a plain book are right by rules that are looked up."""
    for row in book:
        if not is_right_row(looked, book, row):
            return False
    return True


def right_book(rules, known, thing):
    """A book of plain rules, whose agents are known, as a plain copy; None for any object that is none."""
    book = as_known_book(thing, known)
    return book if book is not None and are_right_rows(Listed(rules), book) else None


def counts_of(book):
    """How many deeds each row of a plain book counts."""
    told = []
    for _, rule, used in book:
        told.append(0 if rule is None else 1 + sum([told[index] for index in used]))
    return told


def written(traced, drops):
    """A book of some drops of what was solved, and of all by which they come; and the indexes of their rows."""
    found = {}
    left = list(drops)
    while left:
        drop = left.pop()
        if drop not in found:
            found[drop] = traced.reason(drop)
            left.extend(found[drop][1])
    # A drop has a greater number than those by which it comes, so they stand ahead of it.
    order = sorted([(traced.numbers[drop], drop) for drop in found])
    places = {drop: at for at, (_, drop) in enumerate(order)}
    book = []
    for _, drop in order:
        rule, used = found[drop]
        book.append((traced.told_drop(drop), rule, [places[other] for other in used]))
    return (book, [places[drop] for drop in drops])

"""Books by their form, whether their rows are right, and books written of what was solved."""

from roadheld.forms import as_layer, as_layers, is_below, is_number, is_row
from roadheld.rules import controls_of


def as_drop(thing):
    """A triple of a list of layers, a layer, a list of layers, its lists as tuples; None for anything else."""
    if not is_row(thing) or len(thing) != 3:
        return None
    control = as_layers(thing[0], None)
    layer = as_layer(thing[1], None)
    behind = as_layers(thing[2], None)
    if control is None or layer is None or behind is None:
        return None
    return (tuple(control), layer, tuple(behind))


def as_drops(thing):
    """A list of drops, of any layers, as plain copies; None for anything else."""
    if not is_row(thing):
        return None
    drops = [as_drop(drop) for drop in thing]
    return None if None in drops else drops


def as_indexes(thing, many):
    """A list of numbers below many, as a new list; None for anything else."""
    if not is_row(thing) or not all([is_below(index, many) for index in thing]):
        return None
    return list(thing)


def as_book_row(thing, many):
    """A row of a book, many standing ahead of it, as a tuple; None for anything else."""
    if not is_row(thing) or len(thing) != 3:
        return None
    drop = as_drop(thing[0])
    used = as_indexes(thing[2], many)
    if drop is None or used is None:
        return None
    if thing[1] is not None and not is_number(thing[1]):
        return None
    return (drop, thing[1], used)


def as_book(thing):
    """A list of rows by their form, each with indexes of rows ahead of it; None for anything else."""
    if not is_row(thing):
        return None
    book = [as_book_row(row, at) for at, row in enumerate(thing)]
    return None if None in book else book


def go_through(book, used, layers, behind):
    """Whether the drops of used rows of a book go through plain layers, from nothing held back to behind."""
    if len(used) != len(layers):
        return False
    control = ()
    for at, layer in enumerate(layers):
        drop = book[used[at]][0]
        if drop[0] != control or drop[1] != layer:
            return False
        control = drop[2]
    return control == behind


def is_right_row(rules, known, book, row):
    """Whether a plain row of a book is one of plain rules, whose controls are known."""
    (control, layer, behind), rule, used = row
    if rule is None:
        return not used and behind == control + (layer,) and behind in known
    if rule >= len(rules):
        return False
    takes, puts, _ = rules[rule]
    if takes:
        return tuple(takes) == control + (layer,) and go_through(book, used, puts, behind)
    return control == () and go_through(book, used, puts + [layer], behind)


def right_book(rules, thing):
    """A book of plain rules as a plain copy; None for any object that is none."""
    book = as_book(thing)
    if book is None:
        return None
    known = {control: True for control in controls_of(rules)}
    return book if all([is_right_row(rules, known, book, row) for row in book]) else None


def counts_of(book):
    """How many deeds each row of a plain book counts."""
    told = []
    for _, rule, used in book:
        told.append(0 if rule is None else 1 + sum([told[index] for index in used]))
    return told


def written(traced, drops):
    """A book of some drops of what was solved, and of all by which they come; and the indexes of their rows."""
    found = {}
    left = list(drops)
    while left:
        drop = left.pop()
        if drop not in found:
            found[drop] = traced.reason(drop)
            left.extend(found[drop][1])
    # A drop has a greater number than those by which it comes, so they stand ahead of it.
    order = sorted([(traced.numbers[drop], drop) for drop in found])
    places = {drop: at for at, (_, drop) in enumerate(order)}
    book = []
    for _, drop in order:
        rule, used = found[drop]
        book.append((traced.told_drop(drop), rule, [places[other] for other in used]))
    return (book, [places[drop] for drop in drops])

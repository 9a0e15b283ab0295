"""Programs by their form: rows, and the layers that they take off or put on."""

from roadheld.forms import WORDS, is_below, is_pair, is_part, is_row

BARE_ROWS = ("open", "seal", "send")
OWNERS = ("mine", "partner")
CHECKED = ("label", "seal")


def is_text_among(thing, texts):
    """Whether a thing is one of some texts."""
    return isinstance(thing, str) and thing in texts


def as_short_row(thing):
    """A row that has no rows of its own, as a tuple; None for anything else."""
    word = thing[0]
    if len(thing) == 1:
        return (word,) if word in BARE_ROWS else None
    last = thing[-1]
    kind = thing[1] if len(thing) == 3 and word == "check" else word if len(thing) == 2 else None
    if not isinstance(kind, str):
        return None
    if kind == "word":
        right = is_below(last, WORDS)
    elif word == "check":
        right = kind in CHECKED and is_text_among(last, OWNERS)
    else:
        right = kind in ("cipher", "label") and is_text_among(last, OWNERS)
    if not right:
        return None
    return ("check", kind, last) if word == "check" else (kind, last)


def as_row(thing):
    """A row as a tuple, the rows in it as lists; None for anything else."""
    if not is_row(thing) or len(thing) == 0 or not isinstance(thing[0], str):
        return None
    if thing[0] != "either":
        return as_short_row(thing)
    if len(thing) != 3:
        return None
    first = as_rows(thing[1])
    second = as_rows(thing[2])
    return None if first is None or second is None else ("either", first, second)


def as_rows(thing):
    """A list of rows, each as a tuple; None for anything else."""
    if not is_row(thing):
        return None
    rows = []
    for part in thing:
        row = as_row(part)
        if row is None:
            return None
        rows.append(row)
    return rows


def as_program(thing):
    """A program as a tuple, its rows as a list; None for anything else."""
    if not is_pair(thing) or not is_part(thing[0]):
        return None
    rows = as_rows(thing[1])
    return None if rows is None else (thing[0], rows)


def taken_layer(part, row):
    """The layer of parts that a row of a program of a part takes off; None if it takes none."""
    if row[0] == "open":
        return ("cipher", part)
    if row[0] != "check":
        return None
    _, kind, whose = row
    return (kind, whose if kind == "word" else part if whose == "mine" else 1 - part)


def put_layer(part, row):
    """The layer of parts that a row of a program of a part puts on; None if it puts none."""
    if row[0] == "seal":
        return ("seal", part)
    if row[0] not in ("cipher", "label", "word"):
        return None
    kind, whose = row
    return (kind, whose if kind == "word" else part if whose == "mine" else 1 - part)


def row_taking(part, layer):
    """The row by which a program of a part takes off a layer."""
    kind, whose = layer
    if kind == "cipher":
        return ("open",)
    return ("check", kind, whose if kind == "word" else "mine" if whose == part else "partner")


def row_putting(part, layer):
    """The row by which a program of a part puts on a layer."""
    kind, whose = layer
    if kind == "seal":
        return ("seal",)
    return (kind, whose if kind == "word" else "mine" if whose == part else "partner")

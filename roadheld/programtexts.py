"""Texts of programs."""

from roadheld.programforms import BARE_ROWS, CHECKED, OWNERS
from roadheld.programs import checked_program
from roadheld.reading import Reader

FIRST_WORDS = ("open", "check", "cipher", "seal", "label", "word", "send", "either")


def rows_text(rows):
    """The text of rows, with one blank behind each."""
    told = []
    for row in rows:
        if row[0] == "either":
            told.append("either { " + rows_text(row[1]) + "} or { " + rows_text(row[2]) + "} ")
        else:
            told.append(" ".join([str(part) for part in row]) + " ; ")
    return "".join(told)


def program_text(program):
    """The text of a program."""
    part, rows = checked_program(program)
    return "part " + str(part) + " { " + rows_text(rows) + "}"


def read_short_row(reader, word):
    """Reads what is left of a row that has no rows of its own, behind its first word, with the sign that ends it."""
    row = (word,)
    if word == "check":
        row = (word, reader.read_word(CHECKED + ("word",)))
    if row[-1] == "word":
        row = row + (reader.read_below(10),)
    elif row[0] not in BARE_ROWS:
        row = row + (reader.read_word(OWNERS),)
    reader.skip(";")
    return row


def read_rows(reader):
    """Reads rows up to the sign that ends them.

    Rows within others are put aside until those are read: for each either that is begun the rows ahead of it, and the
    first list of its own, None while this is read.
    """
    begun = []
    rows = []
    while True:
        if reader.took("}"):
            if not begun:
                return rows
            ahead, first = begun.pop()
            if first is None:
                reader.skip("or")
                reader.skip("{")
                begun.append((ahead, rows))
                rows = []
            else:
                rows = ahead + [("either", first, rows)]
            continue
        word = reader.read_word(FIRST_WORDS)
        if word == "either":
            reader.skip("{")
            begun.append((rows, None))
            rows = []
        else:
            rows.append(read_short_row(reader, word))


def read_program(text):
    """The program of such a text."""
    reader = Reader(text)
    reader.skip("part")
    part = reader.read_below(2)
    reader.skip("{")
    rows = read_rows(reader)
    reader.finish()
    return (part, rows)

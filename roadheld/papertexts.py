"""Texts of papers: how many states there are, the firsts, the ends, and each row in a line of its own."""

from roadheld.lines import is_numeral, layer_of_words, numbered_line, numbers_behind
from roadheld.machines import checked_machine
from roadheld.messages import layer_text
from roadheld.refusals import BadPaperText
from roadheld.walks import as_row, as_states


def lines_of_machine(machine):
    """The lines of the text of a plain machine."""
    many, firsts, rows, ends = machine
    lines = [numbered_line("states", [many]), numbered_line("firsts", firsts), numbered_line("ends", ends)]
    for state, layer, other in rows:
        lines.append(str(state) + " " + layer_text(layer) + " " + str(other))
    return lines


def paper_text(machine):
    """The text of a machine."""
    return "\n".join(lines_of_machine(checked_machine(machine)))


def states_in(line):
    """How many states a line tells; None for any other line."""
    numbers = numbers_behind("states", line)
    return numbers[0] if numbers is not None and len(numbers) == 1 and numbers[0] > 0 else None


def row_in(line, many):
    """The row of a machine of many states that a line tells; None for any other line."""
    words = line.split(" ")
    if len(words) != 4 or not is_numeral(words[0]) or not is_numeral(words[3]):
        return None
    return as_row((int(words[0]), layer_of_words(words[1], words[2], None), int(words[3])), many)


def machine_of_lines(lines):
    """The machine that lines tell, and None; or None, and the index of the first line with which none goes on."""
    many = states_in(lines[0]) if lines else None
    if many is None:
        return (None, 0)
    lots = []
    for word in ("firsts", "ends"):
        at = 1 + len(lots)
        states = as_states(numbers_behind(word, lines[at]), many) if at < len(lines) else None
        if states is None:
            return (None, at)
        lots.append(states)
    rows = []
    for at in range(3, len(lines)):
        row = row_in(lines[at], many)
        if row is None or rows and row <= rows[-1]:
            return (None, at)
        rows.append(row)
    return ((many, lots[0], rows, lots[1]), None)


def read_paper(text):
    """The machine of such a text."""
    if not isinstance(text, str):
        raise BadPaperText(0)
    machine, wrong = machine_of_lines(text.split("\n"))
    if wrong is not None:
        raise BadPaperText(wrong)
    return machine

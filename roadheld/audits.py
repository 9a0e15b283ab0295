"""Audits: texts by which anybody can judge an answer who has nothing else."""

from roadheld.errors import ProtocolError
from roadheld.forms import as_layers
from roadheld.handed import checked_question
from roadheld.lines import numbered_line, numbers_behind
from roadheld.lookups import ruled_by
from roadheld.messages import layer_text, row_text
from roadheld.papertexts import lines_of_machine, machine_of_lines
from roadheld.questiontexts import ended_lines, question_lines, question_of_lines
from roadheld.reading import Reader
from roadheld.refusals import BadAnswer, BadAudit
from roadheld.settling import as_answer


def row_line(row):
    """The line of a row of a book."""
    (control, layer, behind), rule, used = row
    drop = row_text(control) + " / " + layer_text(layer) + " / " + row_text(behind)
    does = "reads" if rule is None else "does " + str(rule)
    return numbered_line("row " + drop + " " + does, used)


def answer_lines(answer):
    """The lines of a plain answer."""
    if answer[0] == "safe":
        return ["safe"] + lines_of_machine(answer[1])
    _, index, number, book, used = answer
    return [numbered_line("bare", [index, number] + used)] + [row_line(row) for row in book]


def audit_text(post, protocols, messages, thing):
    """The audit of a right answer."""
    held = checked_question(post, protocols, messages)
    answer = as_answer(ruled_by(post, protocols), held, thing)
    if answer is None:
        raise BadAnswer(thing)
    lines = question_lines(post, protocols, held) + answer_lines(answer)
    return "".join([line + "\n" for line in lines])


def read_row(reader):
    """Reads the row of a book."""
    reader.skip("row")
    control = reader.read_layers(False)
    reader.skip("/")
    layer = reader.read_layer(False)
    reader.skip("/")
    behind = reader.read_layers(False)
    rule = None
    if reader.read_word(("reads", "does")) == "does":
        rule = reader.read_number()
    used = []
    while not reader.is_over():
        used.append(reader.read_number())
    return ((tuple(control), layer, tuple(behind)), rule, used)


def row_in_line(line, agents):
    """The row of a book, over agents, that a line tells; None for any other line."""
    try:
        row = read_row(Reader(line))
    except ProtocolError:
        return None
    control, layer, behind = row[0]
    if as_layers(control + (layer,) + behind, agents) is None:
        return None
    return row if row_line(row) == line else None


def answer_of_lines(lines, agents):
    """The answer that lines tell, and None; or None, and the index of the first line that is none in its place."""
    if not lines:
        return (None, 0)
    if lines[0] == "safe":
        machine, wrong = machine_of_lines(lines[1:])
        return (("safe", machine), None) if wrong is None else (None, 1 + wrong)
    numbers = numbers_behind("bare", lines[0])
    if numbers is None or len(numbers) < 2:
        return (None, 0)
    book = []
    for at in range(1, len(lines)):
        row = row_in_line(lines[at], agents)
        if row is None:
            return (None, at)
        book.append(row)
    return (("bare", numbers[0], numbers[1], book, numbers[2:]), None)


def audited(text):
    """The question and the answer of such a text."""
    if not isinstance(text, str):
        raise BadAudit(0)
    lines, rest = ended_lines(text)
    question, at = question_of_lines(lines)
    if question is None:
        raise BadAudit(at)
    post, protocols, messages = question
    thing, wrong = answer_of_lines(lines[at:], post.agents())
    if wrong is not None:
        raise BadAudit(at + wrong)
    if rest:
        raise BadAudit(len(lines))
    answer = as_answer(ruled_by(post, protocols), messages, thing)
    if answer is None:
        raise BadAudit("answer")
    return (post, protocols, messages, answer)

"""Desks: questions that change, edit by edit, back and on, with the last answer that was told."""

from roadheld.edits import CALLED, copied_edit, edit_text, edited, edited_by_text
from roadheld.handed import checked_question
from roadheld.lookups import ruled_by
from roadheld.questiontexts import ended_lines, question_lines, question_of_lines
from roadheld.refusals import BadDesk, BadEdit
from roadheld.rules import rules_of
from roadheld.settling import as_answer, copied_answer, settled


def copied_messages(messages):
    """Plain messages with lists of their own."""
    return [(list(layers), core) for layers, core in messages]


def led_book(book, rules, others):
    """A plain book with the rules of its rows led to other ones; None if one of them is not among these."""
    places = {(tuple(takes), tuple(puts)): at for at, (takes, puts, _) in enumerate(others)}
    led = []
    for drop, rule, used in book:
        if rule is not None:
            rule = places.get((tuple(rules[rule][0]), tuple(rules[rule][1])))
            if rule is None:
                return None
        led.append((drop, rule, used))
    return led


class Desk:
    """A post, protocols and messages, and whether one of these ever comes bare, as they are edited."""

    def __init__(self, post, protocols, messages):
        held = checked_question(post, protocols, messages)
        self._first = (post, list(protocols), held)
        # The question at first, and behind each edit that is done.
        self._questions = [self._first]
        self._done = []
        # The edit that was undone last stands last.
        self._undone = []
        # The answer that was told last, and the rules of its question.
        self._kept = None

    def post(self):
        """The post as it is now."""
        return self._questions[-1][0]

    def protocols(self):
        """The protocols as they are now."""
        return list(self._questions[-1][1])

    def messages(self):
        """The messages as they are now."""
        return copied_messages(self._questions[-1][2])

    def edits(self):
        """The edits done, in order, and those undone, the next one to be done again first."""
        undone = self._undone[::-1]
        return ([copied_edit(edit) for edit in self._done], [copied_edit(edit) for edit in undone])

    def edit(self, edit):
        """Does an edit, and tells what it is called."""
        found = edited(self._questions[-1], edit)
        if found is None:
            raise BadEdit(edit)
        self._done.append(found[0])
        self._questions.append(found[1])
        self._undone = []
        return CALLED[found[0][0]]

    def undo(self):
        """Takes the last edit back, and tells what it is called; None if there is none."""
        if not self._done:
            return None
        self._undone.append(self._done.pop())
        self._questions.pop()
        return CALLED[self._undone[-1][0]]

    def redo(self):
        """Does the edit again that was undone last, and tells what it is called; None if there is none."""
        if not self._undone:
            return None
        edit, question = edited(self._questions[-1], self._undone.pop())
        self._done.append(edit)
        self._questions.append(question)
        return CALLED[edit[0]]

    def _led(self, rules):
        """The answer that was told last, led to the rules that there are now; None if it does not stand."""
        if self._kept is None:
            return None
        answer, others = self._kept
        if answer[0] == "bare":
            book = led_book(answer[3], others, rules)
            if book is None:
                return None
            answer = answer[:3] + (book, answer[4])
        post, protocols, messages = self._questions[-1]
        return as_answer(ruled_by(post, protocols), messages, answer)

    def _rules(self):
        """The rules that there are now."""
        post, protocols, _ = self._questions[-1]
        return rules_of(post, protocols)

    def stands(self):
        """Whether the answer that was told last is right still; None if none was told."""
        return None if self._kept is None else self._led(self._rules()) is not None

    def answer(self):
        """The answer that was told last, if it stands, else a new one."""
        rules = self._rules()
        answer = self._led(rules)
        if answer is None:
            answer = settled(rules, self._questions[-1][2])
        self._kept = (answer, rules)
        return copied_answer(answer)

    def text(self):
        """The text of the question as it was at first, and of all edits."""
        lines = question_lines(self._first[0], self._first[1], self._first[2])
        lines.extend(["edit " + edit_text(edit) for edit in self._done])
        lines.extend(["undone " + edit_text(edit) for edit in self._undone[::-1]])
        return "".join([line + "\n" for line in lines])

    def __eq__(self, other):
        return (isinstance(other, Desk) and self._first == other._first and self._done == other._done
                and self._undone == other._undone)


def do_lines(desk, lines):
    """Does the edits of lines, and undoes those that were undone; the index of the first wrong line, or None."""
    undone = 0
    for at, line in enumerate(lines):
        word, _, text = line.partition(" ")
        found = edited_by_text((desk.post(), desk.protocols(), desk.messages()), text)
        if found is None or word not in ("edit", "undone") or word == "edit" and undone:
            return at
        desk.edit(found[0])
        undone += 1 if word == "undone" else 0
    for _ in range(undone):
        desk.undo()
    return None


def read_desk(text):
    """The desk of such a text."""
    if not isinstance(text, str):
        raise BadDesk(0)
    lines, rest = ended_lines(text)
    question, at = question_of_lines(lines)
    if question is None:
        raise BadDesk(at)
    post, protocols, messages = question
    desk = Desk(post, protocols, messages)
    wrong = do_lines(desk, lines[at:])
    if wrong is not None:
        raise BadDesk(at + wrong)
    if rest:
        raise BadDesk(len(lines))
    return desk

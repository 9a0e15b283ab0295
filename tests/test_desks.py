"""Desks: [20.1], [20.2], [20.3], [20.4], [20.5], with [20.6]."""

import random
import re
import time
import unittest

from roadheld.agents import Post
from roadheld.answers import answer_for, is_answer
from roadheld.attacks import fewest, judged_attack
from roadheld.desks import Desk, read_desk
from roadheld.errors import BadMessages, BadPost, BadProtocols
from roadheld.messages import read_message
from roadheld.protocols import Proto, read_protocol
from roadheld.refusals import BadDesk, BadEdit
from roadheld.rules import rules_of
from tests import plain
from tests.samples import (AGENTS, G, GREET, H, P, T, Alike, deep, emptied, listed, random_protocol, random_question, strong, things,
                           tight, tupled, w1, weak)
from tests.test_answers import FIRST, SECOND
from tests.textlines import RESERVED, STEP, are_right, bent_texts, head_of, is_message, is_protocol, is_step

NAMES = {"hire": "more", "give": "more", "add": "more", "message": "more", "lock": "less", "drop": "less", "burn": "less", "step": "other"}


def question_of(desk):
    return (desk.post(), desk.protocols(), desk.messages())


def done_by_trying(question, edit):
    """The question behind a right edit, as [20.2] says; None for a wrong one of the right form."""
    post, protocols, messages = question
    agents, keys, names = post.agents(), post.keyring(), [protocol.name() for protocol in protocols]
    word = edit[0]
    if word == "hire" and edit[1] not in agents + list(RESERVED):
        return (Post(agents + [edit[1]], keys), protocols, messages)
    if word == "give" and edit[1] not in keys and edit[1][1] in agents:
        return (Post(agents, keys + [edit[1]]), protocols, messages)
    if word == "lock" and edit[1] in keys:
        keys = [key for key in keys if key != edit[1]]
        if any(("cipher", agent) in keys and ("seal", agent) in keys for agent in agents):
            return (Post(agents, keys), protocols, messages)
    if word == "add" and edit[1].name() not in names:
        return (post, protocols + [edit[1]], messages)
    if word == "drop" and edit[1] in names:
        return (post, [protocol for protocol in protocols if protocol.name() != edit[1]], messages)
    if word == "message" and all(kind == "word" or whose in agents for kind, whose in edit[1][0]):
        return (post, protocols, messages + [edit[1]])
    if word == "burn" and edit[1] < len(messages):
        return (post, protocols, messages[:edit[1]] + messages[edit[1] + 1:])
    if word == "step" and edit[1] in names:
        at = names.index(edit[1])
        steps = protocols[at].steps()
        if edit[2] < len(steps):
            steps[edit[2]] = edit[3]
            try:
                return (post, protocols[:at] + [Proto(edit[1], steps)] + protocols[at + 1:], messages)
            except ValueError:
                return None
    return None


def random_edit(chance):
    """An edit of the right form by chance, right or wrong."""
    agents = AGENTS[:5]
    word = chance.choice(["hire", "give", "give", "lock", "add", "add", "drop", "message", "message", "burn", "step", "step"])
    name = chance.choice(["one", "two", "tri"])
    layers = [chance.choice([("cipher", agent) for agent in agents] + [("label", "ann"), w1]) for _ in range(chance.randint(1, 3))]
    step = (chance.randint(0, 1), chance.choice([[], [w1], [("cipher", 1)], [("label", 0)]]), [chance.choice([w1, ("cipher", 0), ("seal", 1)])])
    parts = {"hire": [chance.choice(agents)], "give": [(chance.choice(["cipher", "seal"]), chance.choice(agents))],
             "lock": [(chance.choice(["cipher", "seal"]), chance.choice(agents))], "add": [random_protocol(chance, name)],
             "drop": [name], "message": [(layers, chance.randint(-2, 2))], "burn": [chance.randint(0, 3)],
             "step": [name, chance.randint(0, 2), step]}
    return tuple([word] + parts[word])


def edited_desk(chance, many):
    """A desk with some edits done and undone."""
    desk = Desk(*random_question(chance))
    for _ in range(many):
        try:
            desk.edit(random_edit(chance))
        except BadEdit:
            pass
        if chance.random() < 0.2:
            desk.undo()
        if chance.random() < 0.1:
            desk.redo()
    for _ in range(chance.randint(0, 3)):
        desk.undo()
    return desk


class TestExample(unittest.TestCase):
    def test_example(self):
        desk = Desk(T, [H], SECOND)
        self.assertIsNone(desk.stands())
        self.assertEqual(desk.answer()[0], "safe")
        self.assertEqual(desk.edit(("add", G)), "more")
        self.assertIs(desk.stands(), False)
        told = desk.answer()
        self.assertEqual(told[:3], ("bare", 0, 4))
        moves = [("put", ("label", "eve")), ("answer", "greet", "bob", "eve", 1), ("take", ("cipher", "eve")), ("take", ("label", "ann"))]
        self.assertIsNone(judged_attack(T, [H, G], SECOND, (0, moves)))
        self.assertIsNotNone(judged_attack(T, [H], SECOND, (0, moves)))
        self.assertIs(desk.stands(), True)
        self.assertEqual(desk.undo(), "more")
        self.assertIs(desk.stands(), False)
        self.assertEqual(desk.answer()[0], "safe")
        self.assertIs(desk.stands(), True)


class TestDesks(unittest.TestCase):
    def test_told(self):
        messages = [[[["label", "ann"]], 3]]
        protocols = [G]
        desk = Desk(T, protocols, messages)
        messages[0][0].clear()
        protocols.clear()
        self.assertEqual(question_of(desk), (T, [G], [([("label", "ann")], 3)]))
        self.assertEqual(desk.edits(), ([], []))
        self.assertEqual([part.__class__ for part in (desk.edits(), desk.edits()[0], desk.messages(), desk.messages()[0], desk.messages()[0][0])],
                         [tuple, list, list, tuple, list])
        emptied(desk.messages())
        desk.protocols().clear()
        emptied(desk.edits())
        self.assertEqual(question_of(desk), (T, [G], [([("label", "ann")], 3)]))

    def test_refused(self):
        for wrong in things() + ["T", (T,), Post]:
            with self.assertRaises(BadPost) as caught:
                Desk(wrong, None, None)
            self.assertIs(caught.exception.post, wrong)
            with self.assertRaises(BadProtocols) as caught:
                Desk(T, [wrong], None)
            with self.assertRaises(BadMessages) as caught:
                Desk(T, [G], [wrong])
        with self.assertRaises(BadMessages):
            Desk(T, [], [([("label", "zoe")], 0)])

    def test_equal(self):
        one, other = Desk(T, [H], SECOND), Desk(P, (H,), tupled(SECOND))
        self.assertTrue(one == other)
        one.answer()
        self.assertTrue(one == other)
        one.edit(("add", G))
        self.assertFalse(one == other)
        self.assertTrue(one != other)
        other.edit(["add", read_protocol(GREET)])
        self.assertTrue(one == other)
        one.undo()
        self.assertFalse(one == other)
        other.undo()
        self.assertTrue(one == other)
        one.edit(("drop", "hide"))
        self.assertFalse(one == other)
        other.edit(("drop", "hide"))
        self.assertTrue(one == other)
        one.undo()
        one.redo()
        self.assertTrue(one == other)
        self.assertFalse(Desk(T, [H], SECOND) == Desk(T, [H], []))
        self.assertFalse(Desk(T, [H], SECOND) == Desk(T, [G], SECOND))
        self.assertFalse(Desk(T, [G, H], []) == Desk(T, [H, G], []))
        added = Desk(T, [], [])
        added.edit(("add", H))
        self.assertFalse(added == Desk(T, [H], []))
        for thing in (None, 1, T, "desk", [], Alike()):
            self.assertFalse(one.__eq__(thing))
            self.assertFalse(one == thing and not isinstance(thing, Alike))


class TestEdits(unittest.TestCase):
    def test_by_trying(self):
        seen = {}
        for chance in plain.chances(120):
            question = random_question(chance)
            desk = Desk(*question)
            first, done, undone = question, [], []
            for _ in range(25):
                deed = chance.random()
                if deed < 0.15:
                    due = NAMES[done[-1][0]] if done else None
                    if done:
                        undone.insert(0, done.pop())
                    self.assertEqual(desk.undo(), due)
                elif deed < 0.3:
                    due = NAMES[undone[0][0]] if undone else None
                    if undone:
                        done.append(undone.pop(0))
                    self.assertEqual(desk.redo(), due)
                else:
                    edit = random_edit(chance)
                    behind = done_by_trying(question_of(desk), edit)
                    passed = chance.choice([edit, listed(edit), tupled(edit)])
                    right = behind is not None
                    if right:
                        self.assertEqual(desk.edit(passed), NAMES[edit[0]])
                        done.append(edit)
                        undone = []
                    else:
                        with self.assertRaises(BadEdit) as caught:
                            desk.edit(passed)
                        self.assertIs(caught.exception.edit, passed)
                    seen[edit[0], right] = seen.get((edit[0], right), 0) + 1
                question = first
                for edit in done:
                    question = done_by_trying(question, edit)
                self.assertEqual(question_of(desk), question)
                self.assertEqual(desk.edits(), (done, undone))
        self.assertEqual(len(seen), 16)
        self.assertGreater(min(seen.values()), 9)

    def test_edges(self):
        desk = Desk(T, [G], FIRST)
        for wrong in [("hire", "ann"), ("hire", "Ann"), ("hire", "cipher"), ("hire",), ("hire", "cid", "dan"), ("hire", ["cid"]), "hire", ["hire"],
                      ("give", ("cipher", "eve")), ("give", ("cipher", "zoe")), ("give", ("label", "ann")), ("give", w1), ("give", "ann"),
                      ("lock", ("cipher", "eve")), ("lock", ("seal", "eve")), ("lock", ("cipher", "ann")), ("lock", ("label", "eve")),
                      ("add", G), ("add", Proto("greet", H.steps())), ("add", GREET), ("add", "greet"), ("add", [H]), ("drop", "hide"), ("drop", G),
                      ("drop", ["greet"]), ("message", ([("label", "zoe")], 0)), ("message", [w1]), ("message", ([w1], True)), ("message", None),
                      ("burn", 1), ("burn", -1), ("burn", True), ("burn", "0"), ("burn", 10 ** 3000), ("step", "greet", 0, (1, [], [])),
                      ("step", "greet", 0, (0, [w1], [])), ("step", "greet", 2, (0, [], [])), ("step", "greet", -1, (0, [], [])),
                      ("step", "greet", False, (0, [], [])), ("step", "hide", 0, (0, [], [])), ("step", "greet", 1, (1, [("cipher", 0)], [])),
                      ("step", "greet", 1, (1, [], [("seal", 0)])), ("step", "greet", 1), ("step", "greet", 1, None), ("step", G, 1, (0, [], [])),
                      ("Hire", "cid"), ("undo",), (), [], deep(), ("hire", deep()), ("message", deep())] + things():
            with self.assertRaises(BadEdit) as caught:
                desk.edit(wrong)
            self.assertIs(caught.exception.edit, wrong)
            self.assertEqual((question_of(desk), desk.edits()), ((T, [G], FIRST), ([], [])))
        for thing in things():
            for word in NAMES:
                with self.assertRaises(BadEdit):
                    desk.edit((word, thing))
                with self.assertRaises(BadEdit):
                    desk.edit((thing, word))
            for at in range(1, 4):
                edit = ["step", "greet", 1, (1, [], [])]
                edit[at] = thing
                with self.assertRaises(BadEdit):
                    desk.edit(edit)

    def test_other_steps(self):
        desk = Desk(T, [G, H], FIRST)
        self.assertEqual(desk.edit(("step", "greet", 0, (0, [], []))), "other")
        self.assertEqual(desk.edit(["step", "greet", 1, [0, [["word", 1]], (("seal", 0),)]]), "other")
        self.assertEqual(desk.protocols()[0].steps(), [(0, [], []), (0, [w1], [("seal", 0)])])
        self.assertTrue(desk.protocols()[1] == H)
        told = desk.edits()[0]
        self.assertEqual(told, [("step", "greet", 0, (0, [], [])), ("step", "greet", 1, (0, [w1], [("seal", 0)]))])
        emptied(told)
        self.assertEqual(desk.edits()[0][1], ("step", "greet", 1, (0, [w1], [("seal", 0)])))
        self.assertEqual((desk.undo(), desk.undo(), desk.undo(), desk.redo()), ("other", "other", None, "other"))
        self.assertEqual(desk.edits(), ([("step", "greet", 0, (0, [], []))], [("step", "greet", 1, (0, [w1], [("seal", 0)]))]))

    def test_what_is_refused_keeps_what_was_undone(self):
        desk = Desk(T, [G], FIRST)
        desk.edit(("drop", "greet"))
        desk.undo()
        with self.assertRaises(BadEdit):
            desk.edit(("drop", "hide"))
        self.assertEqual(desk.redo(), "less")
        desk.undo()
        desk.edit(("hire", "cid"))
        self.assertIsNone(desk.redo())

    def test_changed_by_the_caller(self):
        desk = Desk(T, [], [])
        message = [[["word", 1]], 4]
        desk.edit(["message", message])
        message[0].clear()
        emptied(desk.edits())
        self.assertEqual((desk.messages(), desk.edits()[0]), ([([w1], 4)], [("message", ([w1], 4))]))


def stands_by_trying(kept, others, question):
    """Whether a kept answer of other rules stands, as [20.4] says."""
    rules = rules_of(*question[:2])
    if kept[0] == "bare":
        book = []
        for drop, rule, used in kept[3]:
            led = [at for at, other in enumerate(rules) if rule is not None and other[:2] == others[rule][:2]]
            if rule is not None and not led:
                return False
            book.append((drop, led[0] if led else None, used))
        kept = kept[:3] + (book, kept[4])
    return is_answer(*question, kept)


class TestAnswers(unittest.TestCase):
    def test_rows_of_edits(self):
        seen = {True: 0, False: 0}
        words = {"bare": 0, "safe": 0}
        for chance in plain.chances(60):
            desk = Desk(*random_question(chance))
            kept, names = None, set()
            self.assertIsNone(desk.stands())
            for _ in range(10):
                if chance.random() < 0.25:
                    names.add(chance.choice([desk.undo, desk.redo])())
                else:
                    try:
                        names.add(desk.edit(random_edit(chance)))
                    except BadEdit:
                        pass
                question = question_of(desk)
                if kept is not None:
                    stands = stands_by_trying(kept[0], kept[1], question)
                    self.assertIs(desk.stands(), stands)
                    seen[stands] += 1
                if chance.random() < 0.5:
                    told = desk.answer()
                    words[told[0]] += 1
                    self.judge(desk, question, told)
                    if kept is not None and stands:
                        self.assertEqual((told[:3], told[4:]) if told[0] == "bare" else told,
                                         (kept[0][:3], kept[0][4:]) if told[0] == "bare" else kept[0])
                    elif kept is not None:
                        self.assertEqual(told, answer_for(*question))
                    kept = (told, rules_of(*question[:2]))
        self.assertGreater(min(list(seen.values()) + list(words.values())), 40)

    def judge(self, desk, question, told):
        self.assertTrue(is_answer(*question, told))
        self.assertEqual(told[0], answer_for(*question)[0])
        if told[0] == "bare":
            self.assertGreaterEqual(told[2], fewest(*question)[0])
        self.assertIs(desk.stands(), True)
        again = desk.answer()
        self.assertEqual(again, told)
        emptied(again)
        self.assertEqual(desk.answer(), told)

    def test_more_and_less(self):
        seen = {"bare": 0, "safe": 0}
        for chance in plain.chances(150):
            desk = Desk(*random_question(chance))
            kept = desk.answer()[0]
            due = "more" if kept == "bare" else "less"
            for _ in range(12):
                try:
                    if desk.edit(random_edit(chance)) != due:
                        desk.undo()
                        continue
                except BadEdit:
                    continue
                self.assertIs(desk.stands(), True)
                seen[kept] += 1
            self.assertEqual(desk.answer()[0], kept)
        self.assertGreater(min(seen.values()), 30)

    def test_a_kept_one_may_have_more_moves_than_the_fewest(self):
        desk = Desk(T, [G], FIRST)
        self.assertEqual(desk.answer()[2], 4)
        desk.edit(("give", ("cipher", "bob")))
        self.assertEqual((desk.stands(), desk.answer()[2], fewest(*question_of(desk))), (True, 4, (2, 0)))
        desk.edit(("burn", 0))
        self.assertEqual((desk.stands(), desk.answer()[0]), (False, "safe"))
        self.assertEqual((desk.undo(), desk.stands(), desk.answer()[2]), ("less", False, 2))

    def test_rules_led(self):
        desk = Desk(T, [G], FIRST)
        told = desk.answer()
        desk.edit(("hire", "aaa"))
        self.assertIs(desk.stands(), True)
        led = desk.answer()
        rules, others = rules_of(T, [G]), rules_of(desk.post(), [G])
        self.assertNotEqual(led, told)
        for (drop, rule, used), (other, its, row) in zip(told[3], led[3]):
            self.assertEqual((drop, used), (other, row))
            if rule is not None:
                self.assertEqual(rules[rule], others[its])
        # The kept one is the led one from now on.
        desk.undo()
        self.assertIs(desk.stands(), True)
        self.assertEqual(desk.answer(), told)

    def test_another_protocol_with_the_same_rules(self):
        desk = Desk(T, [G], FIRST)
        desk.answer()
        desk.edit(("add", Proto("other", G.steps())))
        desk.edit(("drop", "greet"))
        self.assertIs(desk.stands(), True)
        self.assertTrue(is_answer(*question_of(desk), desk.answer()))


def is_edit_text(text, agents):
    """Whether a text has the form of that of an edit."""
    word, _, rest = text.partition(" ")
    if word in ("hire", "drop"):
        return bool(re.fullmatch("[a-z]{1,8}", rest))
    if word in ("give", "lock"):
        return bool(re.fullmatch("(cipher|seal) [a-z]{1,8}", rest)) and are_right(rest, None)
    if word == "add":
        return is_protocol(rest, [])
    if word == "message":
        return is_message(rest, agents)
    if word == "burn":
        return bool(re.fullmatch("0|[1-9][0-9]*", rest))
    found = re.fullmatch("[a-z]{1,8} (?:0|[1-9][0-9]*) (" + STEP + ")", rest) if word == "step" else None
    return bool(found) and is_step(found.group(1))


class TestTexts(unittest.TestCase):
    def due(self, text, line):
        with self.assertRaises(BadDesk) as caught:
            read_desk(text)
        self.assertEqual(caught.exception.line, line, text)

    def test_text(self):
        desk = Desk(T, [H], SECOND)
        for edit in [("hire", "cid"), ("give", ("cipher", "cid")), ("give", ("seal", "cid")), ("lock", ("seal", "eve")), ("add", G),
                     ("message", ([w1, ("label", "cid")], -7)), ("burn", 0), ("step", "greet", 1, (1, [], [("label", 0), w1])), ("drop", "hide")]:
            desk.edit(edit)
        desk.undo()
        desk.undo()
        text = ("agents ann, bob, eve\nkeys cipher eve, seal eve\nprotocol hide { 0 takes nothing puts cipher 1 , label 0 ; "
                "1 takes cipher 1 , label 0 puts cipher 0 ; }\nmessage cipher bob, label ann : 0\nedit hire cid\nedit give cipher cid\n"
                "edit give seal cid\nedit lock seal eve\nedit add " + GREET + "\nedit message word 1, label cid : -7\nedit burn 0\n"
                "undone step greet 1 1 takes nothing puts label 0 , word 1\nundone drop hide\n")
        self.assertEqual(desk.text(), text)
        read = read_desk(text)
        self.assertTrue(read == desk)
        self.assertIsNone(read.stands())
        self.assertEqual((read.redo(), read.redo(), read.redo()), ("other", "less", None))
        self.assertEqual(Desk(T, [], []).text(), "agents ann, bob, eve\nkeys cipher eve, seal eve\n")

    def test_there_and_back(self):
        for chance in plain.chances(120):
            desk = edited_desk(chance, chance.randint(0, 12))
            desk.answer()
            read = read_desk(desk.text())
            self.assertTrue(read == desk)
            self.assertEqual((read.text(), question_of(read), read.edits()), (desk.text(), question_of(desk), desk.edits()))
            self.assertIsNone(read.stands())

    def test_lines(self):
        head = "agents ann, eve\nkeys cipher eve, seal eve\n"
        for text, line in (("", 0), ("agents ann, eve\n", 1), ("agents ann, eve", 0), (head[:-1], 1), (head + "edit hire bob", 2),
                           (head + "edit hire ann\n", 2), (head + "edit hire bob\nedit hire bob\n", 3), (head + "edit  hire bob\n", 2),
                           (head + "edit hire bob \n", 2), (head + "Edit hire bob\n", 2), (head + "edit\n", 2), (head + "\n", 2),
                           (head + "edit hire\n", 2), (head + "hire bob\n", 2), (head + "undone hire bob\nedit hire cid\n", 3),
                           (head + "undone hire bob\nundone hire bob\n", 3), (head + "edit burn 00\n", 2), (head + "edit give cipher eve\n", 2),
                           (head + "message nothing : 1\nedit burn 00\n", 3), (head + "message nothing : 1\nedit burn 1\n", 3),
                           (head + "edit message label bob : 1\n", 2), (head + "edit hire bob\nedit message label bob : 01\n", 3),
                           (head + "edit lock cipher eve\n", 2), (head + "edit drop one\n", 2), (head + "edit add one\n", 2),
                           (head + "edit add protocol one { 0 takes nothing puts nothing ; }\nedit step one 0 0 takes nothing puts nothing ;\n", 3),
                           (head + "edit add protocol one { 0 takes nothing puts nothing ; }\nedit step one 0 0 takes word 1 puts nothing\n", 3),
                           (head + "edit add protocol one { 0 takes nothing puts nothing ; }\nedit step one 1 0 takes nothing puts nothing\n", 3),
                           (head + "edit add protocol one { 0 takes nothing puts nothing ;}\n", 2),
                           (head + "edit hire bob\nmessage nothing : 1\n", 3), (head + "message nothing : 1\nmessage label bob : 1\n", 3)):
            self.due(text, line)
        self.assertEqual(read_desk(head + "undone hire bob\nundone give seal bob\n").edits(), ([], [("hire", "bob"), ("give", ("seal", "bob"))]))

    def test_bent(self):
        seen = {}
        for chance in plain.chances(25):
            text = edited_desk(chance, 8).text()
            for other in bent_texts(text):
                if chance.random() < 0.06:
                    line = self.judge(other)
                    seen[line is None] = seen.get(line is None, 0) + 1
            for at in range(0, len(text), 7):
                self.judge(text[:at])
        self.assertGreater(min(seen.values()), 30)

    def judge(self, text):
        """The first wrong line of a text, once it is read as it is to be."""
        wrong = self.wrong_line(text)
        if wrong is None:
            self.assertEqual(read_desk(text).text(), text)
        else:
            self.due(text, wrong)
        return wrong

    def wrong_line(self, text):
        lines = text.split("\n")
        rest = lines.pop()
        at, agents, _ = head_of(lines)
        if agents is None:
            return at
        question = question_of(read_desk("\n".join(lines[:at]) + "\n"))
        behind = False
        for index in range(at, len(lines)):
            word, _, edit = lines[index].partition(" ")
            if word not in ("edit", "undone") or word == "edit" and behind or not is_edit_text(edit, question[0].agents()):
                return index
            behind = word == "undone"
            question = done_by_trying(question, self.edit_of(edit))
            if question is None:
                return index
        return len(lines) if rest else None

    def edit_of(self, text):
        """The edit of a text of its form."""
        word, _, rest = text.partition(" ")
        if word in ("give", "lock"):
            return (word, tuple(rest.split(" ")))
        if word == "add":
            return (word, read_protocol(rest))
        if word == "message":
            return (word, read_message(rest))
        if word == "burn":
            return (word, int(rest))
        if word == "step":
            name, number, step = rest.split(" ", 2)
            steps = read_protocol("protocol a { 0 takes nothing puts nothing ; " + step + " ; }").steps()
            return (word, name, int(number), steps[1])
        return (word, rest)

    def test_no_strings(self):
        for thing in things() + [b"agents eve\nkeys cipher eve, seal eve\n", ["agents eve"]]:
            self.due(thing, 0)


class TestLimits(unittest.TestCase):
    def test_thirty_edits(self):
        post = Post(AGENTS[:6], [("cipher", "eve"), ("seal", "eve")])
        begin = time.time()
        for seed in range(4):
            chance = random.Random(seed)
            desk = Desk(post, [strong, weak, tight, random_protocol(chance, "odd")], [([("cipher", "bob"), ("label", "ann")] * 6, 10 ** 12)])
            many = 0
            while many < 30:
                try:
                    desk.edit(random_edit(chance))
                    many += 1
                except BadEdit:
                    continue
                desk.stands()
                if many % 5 == 0:
                    self.assertTrue(is_answer(*question_of(desk), desk.answer()))
            self.assertTrue(read_desk(desk.text()) == desk)
            while desk.undo() is not None:
                pass
            self.assertEqual(len(desk.edits()[1]), 30)
            self.assertTrue(read_desk(desk.text()) == desk)
            self.assertTrue(is_answer(*question_of(desk), desk.answer()))
        self.assertLess(time.time() - begin, 30)


if __name__ == "__main__":
    unittest.main()

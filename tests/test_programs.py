"""Little programs: [5.1] to [5.6], [5.8]; what they have to do with the post ([6.1], [9.7])."""

import random
import time
import unittest

from roadheld.attacks import attack_of
from roadheld.errors import (BadLayers, BadMessage, BadName, BadOne, BadOther, BadPart, BadPlace, BadProgram, BadPrograms,
                             BadStep, BadSteps, BadZero)
from roadheld.posts import done
from roadheld.programs import (covers, dead, is_program, program_of, protocol_of, ran, reached, sent, sent_apart, steps_of)
from roadheld.programtexts import read_program
from roadheld.protocols import Proto, dealt
from roadheld.rules import first_messages
from tests import plain
from tests.samples import AGENTS, Alike, Odd, P, deep, listed, random_protocol, things, tupled, words_up_to

SHORT = [("open",), ("seal",), ("send",)] + [("check", kind, whose) for kind in ("label", "seal") for whose in ("mine", "partner")]
SHORT += [(kind, whose) for kind in ("cipher", "label") for whose in ("mine", "partner")]
SHORT += [row for n in range(10) for row in (("word", n), ("check", "word", n))]
LETTERS = [("cipher", 0), ("cipher", 1), ("label", 0), ("word", 3)]
EXAMPLE = read_program("part 1 { open ; check label partner ; either { word 3 ; } or { word 4 ; check word 5 ; } cipher partner ; send ; }")
OTHER = read_program("part 1 { open ; check label partner ; send ; }")


def random_rows(chance, many, deep_most):
    """Rows by chance, in which the same few layers come again and again."""
    rows = []
    for _ in range(chance.randint(0, many)):
        if deep_most and chance.random() < 0.3:
            rows.append(("either", random_rows(chance, 2, deep_most - 1), random_rows(chance, 2, deep_most - 1)))
        else:
            rows.append(chance.choice([("open",), ("open",), ("check", "label", "mine"), ("check", "label", "partner"), ("check", "word", 3),
                                       ("cipher", "mine"), ("cipher", "partner"), ("label", "mine"), ("word", 3), ("send",), ("seal",)]))
    return rows


def random_program(chance):
    rows = random_rows(chance, 4, 2)
    return (chance.randrange(2), rows + [("send",)] if chance.random() < 0.8 else rows)


def layer_of(part, row):
    """The layer of a row, told slowly."""
    kind, whose = row[-2:]
    return (kind, whose if kind == "word" else part if whose == "mine" else 1 - part)


def do(program, layers):
    """All that is sent of layers, and the places of the rows that are done, row by row."""
    part, rows = program
    told, places = [], set()

    def go(rows, place, laid, further):
        if not rows:
            return further(laid)
        row, rest = rows[0], rows[1:]
        behind = place[:-1] + (place[-1] + 1,)
        if row[0] == "either":
            places.add(place)
            for at in (1, 2):
                go(row[at], place + (at - 1, 0), laid, lambda left: go(rest, behind, left, further))
            return
        if row[0] == "send":
            places.add(place)
            told.append(list(laid))
            return
        if row[0] in ("open", "check"):
            layer = ("cipher", part) if row[0] == "open" else layer_of(part, row)
            if laid[:1] != [layer]:
                return
            laid = laid[1:]
        else:
            laid = [("seal", part) if row[0] == "seal" else layer_of(part, row)] + laid
        places.add(place)
        go(rest, behind, laid, further)

    go(rows, (0,), list(layers), lambda laid: None)
    return (sorted([list(row) for row in {tuple(row) for row in told}]), places)


def all_places(rows, ahead=()):
    for at, row in enumerate(rows):
        yield ahead + (at,)
        if row[0] == "either":
            yield from all_places(row[1], ahead + (at, 0))
            yield from all_places(row[2], ahead + (at, 1))


def is_program_slowly(thing):
    def are_rows(rows):
        return isinstance(rows, (list, tuple)) and all(is_row(row) for row in rows)

    def is_row(row):
        if not isinstance(row, (list, tuple)) or not row or not isinstance(row[0], str):
            return False
        if row[0] == "either":
            return len(row) == 3 and are_rows(row[1]) and are_rows(row[2])
        return any(len(row) == len(other) and all(one.__class__ is its.__class__ and one == its for one, its in zip(row, other))
                   for other in SHORT)

    return (isinstance(thing, (list, tuple)) and len(thing) == 2 and isinstance(thing[0], int) and not isinstance(thing[0], bool)
            and thing[0] in (0, 1) and are_rows(thing[1]))


class TestExample(unittest.TestCase):
    def test_words_of_the_example(self):
        self.assertEqual(steps_of(EXAMPLE), [(1, [("cipher", 1), ("label", 0)], [("cipher", 0), ("word", 3)])])
        self.assertEqual(sent(EXAMPLE, [("cipher", 1), ("label", 0), ("word", 7)]), [[("cipher", 0), ("word", 3), ("word", 7)]])
        self.assertEqual(dead(EXAMPLE), [(2, 1, 1)])
        self.assertEqual(reached(EXAMPLE, (3,)), [("cipher", 1), ("label", 0)])
        self.assertEqual(sent_apart(EXAMPLE, OTHER), ([("cipher", 1), ("label", 0)], []))


class TestIsProgram(unittest.TestCase):
    def test_rows(self):
        for row in SHORT:
            self.assertIs(is_program((0, [row])), True)
            for other in plain.bent(row, ["mine", "partner", "label", "seal", "cipher", "word", "check", "open", 0, 9, 10, -1, True, None, Odd()]):
                self.assertIs(is_program((0, [other])), is_program_slowly((0, [other])), other)

    def test_bent(self):
        right = 0
        for chance in plain.chances(60):
            program = random_program(chance)
            self.assertIs(is_program(program), True)
            self.assertIs(is_program(listed(program)), True)
            self.assertIs(is_program(tupled(program)), True)
            for other in plain.bent(program, [0, 1, 2, True, "mine", "send", "either", None, [], ("open",)]):
                self.assertIs(is_program(other), is_program_slowly(other))
                right += is_program(other)
        self.assertGreater(right, 500)

    def test_any_object(self):
        for thing in things() + [deep(), (0, deep()), (1, [deep()]), Odd(), (Odd(), []), (Alike(), []), (True, []), (0, {}), (0, ""), (0, [()]),
                                 (2, []), (0.0, []), (0, [("either", [])]), (0, [("either", [], None)]), (0, [(Alike(),)]), (0, ["send"])]:
            self.assertIs(is_program(thing), False)
        nested = []
        for _ in range(14):
            nested = [("either", nested, [("send",)])]
        self.assertIs(is_program((1, nested)), True)
        self.assertEqual(is_program((0, [])), True)


class TestSent(unittest.TestCase):
    def test_by_trying(self):
        for chance in plain.chances(150):
            program = random_program(chance)
            for layers in words_up_to(LETTERS, 3):
                self.assertEqual(sent(program, layers), do(program, layers)[0])

    def test_ran(self):
        letters = [("cipher", "zoe"), ("cipher", "yan"), ("label", "zoe"), ("label", "max"), ("word", 3)]
        for chance in plain.chances(60):
            program = random_program(chance)
            zero, one = chance.sample(["zoe", "yan"], 2)
            for layers in words_up_to(letters, 2):
                parts = {zero: 0, one: 1}
                # Agents of no part are layers of their own, that no row takes off.
                meant = [(kind, whose if kind == "word" else parts.get(whose, 7)) for kind, whose in layers]
                names = {0: zero, 1: one, 7: "max"}
                due = sorted([(kind, whose if kind == "word" else names[whose]) for kind, whose in row] for row in do(program, meant)[0])
                self.assertEqual(ran(program, zero, one, (layers, -5)), [(row, -5) for row in due])

    def test_wrong(self):
        for thing in things():
            for call in (steps_of, dead, lambda thing: sent(thing, 1), lambda thing: ran(thing, 1, 1, 1), lambda thing: reached(thing, 1),
                         lambda thing: sent_apart(thing, 1)):
                with self.assertRaises(BadProgram) as caught:
                    call(thing)
                self.assertIs(caught.exception.program, thing)
            with self.assertRaises(BadZero) as caught:
                ran(EXAMPLE, thing, thing, thing)
            self.assertIs(caught.exception.zero, thing)
            with self.assertRaises(BadOne) as caught:
                ran(EXAMPLE, "ann", thing, thing)
            self.assertIs(caught.exception.one, thing)
            with self.assertRaises(BadMessage) as caught:
                ran(EXAMPLE, "ann", "bob", thing)
            self.assertIs(caught.exception.message, thing)
        with self.assertRaises(BadOne):
            ran(EXAMPLE, "ann", "ann", ([], 0))
        for layers in ([("cipher", "ann")], [("cipher", 2)], ("cipher", 1), None, [("word", True)], [Odd()]):
            with self.assertRaises(BadLayers) as caught:
                sent(EXAMPLE, layers)
            self.assertIs(caught.exception.layers, layers)


class TestSteps(unittest.TestCase):
    def test_by_trying(self):
        several = 0
        for chance in plain.chances(200):
            program = random_program(chance)
            steps = steps_of(program)
            self.assertEqual(steps, sorted(steps))
            several += len(steps) > 1
            for step in steps:
                self.assertEqual([covers(other, step) for other in steps], [other == step for other in steps])
                self.assertTrue(Proto("some", [(0, [], []), step]))
            for layers in words_up_to(LETTERS, 3):
                made = {tuple(puts + layers[len(takes):]) for _, takes, puts in steps if layers[:len(takes)] == takes}
                self.assertEqual(sent(program, layers), sorted(list(row) for row in made))
            # What is taken off is what it takes at least to do it: there just one of the steps does it.
            for _, takes, puts in steps:
                self.assertIn(puts, do(program, takes)[0])
                self.assertNotIn(puts[:-1] if puts and takes and puts[-1] == takes[-1] else None, do(program, takes[:-1])[0])
        self.assertGreater(several, 30)

    def test_without_either(self):
        for chance in plain.chances(100):
            program = (chance.randrange(2), random_rows(chance, 6, 0))
            self.assertLessEqual(len(steps_of(program)), 1)
            if ("send",) not in program[1]:
                self.assertEqual(steps_of(program), [])

    def test_covers(self):
        w = ("word", 1)
        self.assertIs(covers((0, [], []), (0, [w], [w])), True)
        self.assertIs(covers((0, [], [w]), (0, [w], [w])), False)
        self.assertIs(covers((0, [], [w]), (0, [w], [w, w])), True)
        self.assertIs(covers((0, [w], [w]), (0, [], [])), False)
        self.assertIs(covers((0, [w], []), (0, [w, w], [])), False)
        self.assertIs(covers([0, [w], []], (0, ((("word", 1)),), ())), True)
        for chance in plain.chances(300):
            step, other = [(0, plain.random_layers(chance, LETTERS[:1] + LETTERS[2:3], 0, 2), plain.random_layers(chance, LETTERS[:1] + LETTERS[2:3], 0, 2))
                           for _ in range(2)]
            more = [left for left in words_up_to(LETTERS, 2) if step[1] + left == other[1] and step[2] + left == other[2]]
            self.assertIs(covers(step, other), bool(more))

    def test_covers_wrong(self):
        right = (1, [("cipher", 1)], [("seal", 1)])
        wrong = [(1, [("cipher", 0)], []), (1, [], [("seal", 0)]), (2, [], []), (1, []), None, (True, [], []), (1, [], [("word", 10)]), Odd()]
        for step in wrong + things():
            with self.assertRaises(BadStep) as caught:
                covers(step, None)
            self.assertIs(caught.exception.step, step)
            with self.assertRaises(BadOther) as caught:
                covers(right, step)
            self.assertIs(caught.exception.other, step)
        with self.assertRaises(BadOther):
            covers(right, (0, [], []))


class TestApart(unittest.TestCase):
    def test_by_trying(self):
        parted = 0
        for chance in plain.chances(250):
            part = chance.randrange(2)
            program, other = [(part, random_program(chance)[1]) for _ in range(2)]
            told = sent_apart(program, other)
            self.assertEqual(told is None, steps_of(program) == steps_of(other))
            due = None
            for layers in words_up_to(LETTERS + [("seal", 0), ("label", 1)], 3):
                one, its = do(program, layers)[0], do(other, layers)[0]
                if one != its:
                    due = (layers, min([row for row in one if row not in its] + [row for row in its if row not in one]))
                    break
            if told is None or len(told[0]) < 4:
                self.assertEqual(told, due)
            else:
                self.assertIsNone(due)
            parted += due is not None
            if told is not None:
                # They are parted whatever two agents are dealt.
                row = dealt(told[0], "zoe", "max")
                one, its = ran(program, "zoe", "max", (row, 1)), ran(other, "zoe", "max", (row, 1))
                self.assertNotEqual(one, its)
                self.assertIs((dealt(told[1], "zoe", "max"), 1) in one, (dealt(told[1], "zoe", "max"), 1) not in its)
        self.assertGreater(parted, 100)

    def test_wrong(self):
        for other in [(0, EXAMPLE[1]), None, (1,), EXAMPLE[1]] + things():
            with self.assertRaises(BadOther) as caught:
                sent_apart(EXAMPLE, other)
            self.assertIs(caught.exception.other, other)
        self.assertIsNone(sent_apart(EXAMPLE, listed(EXAMPLE)))
        self.assertIsNone(sent_apart((1, []), (1, [("open",)])))


class TestProgramOf(unittest.TestCase):
    def test_steps_come_again(self):
        for chance in plain.chances(200):
            part = chance.randrange(2)
            takes = [("cipher", part), ("label", 0), ("seal", 1), ("word", 3)]
            puts = [("cipher", 0), ("cipher", 1), ("label", 1), ("seal", part), ("word", 3)]
            steps = [(part, plain.random_layers(chance, takes, 0, 3), plain.random_layers(chance, puts, 0, 3)) for _ in range(chance.randint(1, 8))]
            steps += [(part, step[1] + [("word", 3)], step[2] + [("word", 3)]) for step in steps[:2]]
            told = program_of(part, steps)
            self.assertTrue(is_program(told))
            due = [step for step in steps if not any(covers(other, step) and other != step for other in steps)]
            self.assertEqual(steps_of(told), [list(due)[at] for at in sorted(
                {due.index(step) for step in due}, key=lambda at: due[at])])
            self.assertEqual(program_of(part, listed(steps)), told)
            for step in due:
                self.assertIsNone(sent_apart(program_of(part, [step]), program_of(part, tupled([step]))))

    def test_wrong(self):
        right = (1, [("cipher", 1)], [])
        for part in things() + [2]:
            with self.assertRaises(BadPart) as caught:
                program_of(part, None)
            self.assertIs(caught.exception.part, part)
        for steps, index in (([], 0), ((), 0), (None, 0), (right, 0), ([right, (0, [], [])], 1), ([right, right, None], 2), ({0: right}, 0),
                             ([right, (1, [("cipher", 0)], [])], 1), ([(1, [], [("seal", 0)])], 0), ("", 0)):
            with self.assertRaises(BadSteps) as caught:
                program_of(1, steps)
            self.assertEqual(caught.exception.index, index)
        for thing in things():
            with self.assertRaises(BadSteps) as caught:
                program_of(1, [right, thing])
            self.assertEqual(caught.exception.index, 1)


class TestProtocolOf(unittest.TestCase):
    begin = read_program("part 0 { cipher partner ; send ; }")

    def test_steps_in_order(self):
        told = protocol_of("some", [self.begin, EXAMPLE, (0, [("either", [("open",)], [("check", "word", 3)]), ("send",)])])
        self.assertTrue(told == Proto("some", [(0, [], [("cipher", 1)])] + steps_of(EXAMPLE) + [(0, [("cipher", 0)], []), (0, [("word", 3)], [])]))
        self.assertTrue(protocol_of("some", (listed(self.begin),)) == Proto("some", [(0, [], [("cipher", 1)])]))
        for chance in plain.chances(100):
            programs = [program for program in (random_program(chance) for _ in range(4)) if steps_of(program)]
            told = protocol_of("some", [self.begin] + programs)
            self.assertEqual(told.steps(), [(0, [], [("cipher", 1)])] + [step for program in programs for step in steps_of(program)])

    def test_wrong(self):
        two = (0, [("either", [("word", 1)], [("word", 2)]), ("send",)])
        for programs, index in (([], 0), (None, 0), (self.begin, 0), ([EXAMPLE], 0), ([(1, self.begin[1])], 0), ([two], 0), ([(0, [])], 0),
                                ([(0, [("open",), ("send",)])], 0), ([self.begin, (1, [])], 1), ([self.begin, EXAMPLE, (1, [("open",)])], 2),
                                ([self.begin, EXAMPLE, None], 2), ({0: self.begin}, 0), ([self.begin, self.begin, (0, [("check", "word", 10)])], 2)):
            with self.assertRaises(BadPrograms) as caught:
                protocol_of("some", programs)
            self.assertEqual(caught.exception.index, index)
        for thing in things():
            with self.assertRaises(BadName) as caught:
                protocol_of(thing, thing)
            self.assertIs(caught.exception.name, thing)
            with self.assertRaises(BadPrograms) as caught:
                protocol_of("some", [self.begin, thing])
            self.assertEqual(caught.exception.index, 1)


class TestRows(unittest.TestCase):
    def test_by_trying(self):
        found = 0
        for chance in plain.chances(150):
            program = random_program(chance)
            first = {}
            for layers in words_up_to(LETTERS + [("label", 1)], 3):
                for place in do(program, layers)[1]:
                    first.setdefault(place, layers)
            told_dead = dead(program)
            for place in all_places(program[1]):
                told = reached(program, chance.choice([place, list(place)]))
                if told is None or len(told) < 4:
                    self.assertEqual(told, first.get(place))
                self.assertEqual(told is None, place in told_dead)
                found += told is None
            self.assertEqual(told_dead, sorted(place for place in all_places(program[1]) if reached(program, place) is None))
        self.assertGreater(found, 50)

    def test_wrong_places(self):
        for place in [(), (5,), (2,) * 2, (2, 0), (2, 0, 1), (2, 2, 0), (2, 1, 2), (0, 0, 0), (2, 0, 0, 0), (-1,), (True,), (0.0,), "0", 0, None,
                      {0: 1}, (Odd(),), (10 ** 3000,)] + things():
            with self.assertRaises(BadPlace) as caught:
                reached(EXAMPLE, place)
            self.assertIs(caught.exception.place, place)
        self.assertEqual(reached(EXAMPLE, [2, 1, 0]), [("cipher", 1), ("label", 0)])
        self.assertEqual(reached(EXAMPLE, (2, 0, 0)), [("cipher", 1), ("label", 0)])
        self.assertEqual(reached(EXAMPLE, (0,)), [("cipher", 1)])
        self.assertIsNone(reached(EXAMPLE, (2, 1, 1)))

    def test_behind_a_send(self):
        program = (0, [("either", [("send",)], [("send",), ("open",)]), ("word", 1), ("either", [("seal",)], [])])
        self.assertEqual(dead(program), [(0, 1, 1), (1,), (2,), (2, 0, 0)])
        self.assertEqual(dead((0, [])), [])


class TestPost(unittest.TestCase):
    def test_answers_are_runs(self):
        # What an agent makes of a message by a program is what the post lets it answer by the program's steps.
        letters = [("cipher", "ann"), ("cipher", "bob"), ("label", "ann"), ("label", "eve"), ("word", 3)]
        made = 0
        for chance in plain.chances(80):
            begin = (0, [("word", 3), ("send",)])
            programs = [begin] + [program for program in [random_program(chance)] if steps_of(program)]
            protocol = protocol_of("some", programs)
            agents = P.agents()
            agent, partner = chance.sample(agents, 2)
            held = [(row, 4) for row in words_up_to(letters, 2)]
            first = ran(begin, agent, partner, ([], 4))
            self.assertEqual(first, first_messages(P, [protocol], agent, partner, 4))
            for program in programs[1:]:
                zero, one = (agent, partner) if program[0] == 0 else (partner, agent)
                numbers = range(1, len(protocol.steps()))
                for index, message in enumerate(held):
                    told = [done(P, [protocol], held, ("answer", "some", agent, partner, number, index)) for number in numbers]
                    due = sorted({tuple(answer[1][0]) for answer in told if answer[0] == "held"})
                    self.assertEqual(ran(program, zero, one, message), [(list(row), 4) for row in due])
                    made += len(due)
        self.assertGreater(made, 300)

    def test_attacks_are_runs(self):
        runs = 0
        for seed in range(80):
            chance = random.Random(seed)
            protocol = random_protocol(chance, "some", 4)
            programs = [program_of(part, [(part, takes, puts)]) for part, takes, puts in protocol.steps()]
            self.assertTrue(protocol_of("some", programs) == protocol)
            messages = first_messages(P, [protocol], "ann", "bob", 0)
            attack = attack_of(P, [protocol], messages, 50)
            if attack is None or attack[0] == "long":
                continue
            layers = messages[attack[0]][0]
            for move in attack[1]:
                told = done(P, [protocol], [(layers, 0)], move + (0,))[1]
                if move[0] == "answer":
                    _, _, agent, partner, number = move
                    part = protocol.steps()[number][0]
                    zero, one = (agent, partner) if part == 0 else (partner, agent)
                    self.assertIn(told, ran(programs[number], zero, one, (layers, 0)))
                    runs += 1
                layers = told[0]
        self.assertGreater(runs, 10)


class TestEverywhere(unittest.TestCase):
    def test_told_lists(self):
        for kind in (listed, tupled):
            self.assertEqual(steps_of(program=kind(EXAMPLE)), steps_of(EXAMPLE))
            self.assertEqual(sent(program=kind(EXAMPLE), layers=kind([("cipher", 1), ("label", 0)])), [[("cipher", 0), ("word", 3)]])
            self.assertEqual(ran(program=kind(EXAMPLE), zero="ann", one="bob", message=kind(([("cipher", "bob"), ("label", "ann")], 2))),
                             [([("cipher", "ann"), ("word", 3)], 2)])
            self.assertEqual(dead(program=kind(EXAMPLE)), [(2, 1, 1)])
        told = steps_of(EXAMPLE)
        told[0][1].clear()
        told.clear()
        self.assertEqual(len(steps_of(EXAMPLE)[0][1]), 2)

    def test_limits(self):
        begin = time.time()
        many = (1, [("either", [("word", at)], [("label", "mine")]) for at in range(8)] + [("send",)])
        self.assertEqual(len(steps_of(many)), 256)
        self.assertIsNone(sent_apart(many, listed(many)))
        self.assertEqual(dead(many), [])
        takes = [("cipher", 1), ("word", 3)] * 10
        long = (1, takes, [("seal", 1), ("label", 0)] * 10)
        told = program_of(1, [long] * 5)
        self.assertEqual(steps_of(told), [long])
        self.assertEqual(sent(told, takes + [("word", 1)]), [long[2] + [("word", 1)]])
        self.assertEqual(ran(told, AGENTS[0], AGENTS[1], (dealt(takes, AGENTS[0], AGENTS[1]), 10 ** 12))[0][1], 10 ** 12)
        self.assertLess(time.time() - begin, 5)


if __name__ == "__main__":
    unittest.main()

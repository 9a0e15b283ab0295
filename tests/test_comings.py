"""One message: [12.2], and what [12.5] says of it."""

import random
import time
import unittest

from roadheld.alike import only_of
from roadheld.comings import attack_to, fewest_moves, is_attack_to, judged_never, never
from roadheld.growing import grown, machine_of
from roadheld.machines import both, is_machine, is_taken
from roadheld.papers import judged_paper
from roadheld.rules import after, rules_of
from tests import plain
from tests.calls import NO_MACHINES
from tests.samples import AGENTS, L, M, P, r, strong, things, tight, w1, w2, w3, words_up_to

LETTERS = [w1, w2]


class TestExample(unittest.TestCase):
    def test_words(self):
        self.assertEqual(fewest_moves(r, L, [w3]), 2)
        self.assertEqual(fewest_moves(r, L, [w2, w3]), 1)
        self.assertEqual(fewest_moves(r, L, [w1]), 0)
        self.assertIs(is_attack_to(r, L, [w3], (0, [0, 1])), True)
        self.assertEqual(attack_to(r, L, [w3], 2), (0, [0, 1]))
        self.assertIsNone(attack_to(r, L, [w3], 1))
        self.assertIsNone(fewest_moves(r, L, [w2]))
        self.assertIsNone(never(r, L, [w3]))
        self.assertIsNone(judged_never(r, L, [w2], never(r, L, [w2])))
        for layers in words_up_to([w1, w2, w3], 4):
            self.assertEqual(fewest_moves(r, L, layers) is not None, layers in ([w1], [w2, w3], [w3]))

    def test_posts(self):
        rules = rules_of(P, [tight])
        messages = [([("cipher", "bob"), ("label", "ann")], 7)]
        paper = never(rules, messages, [])
        self.assertIsNone(judged_paper(rules, messages, paper))
        self.assertEqual(fewest_moves(rules, messages, [("cipher", "eve"), ("cipher", "ann")]), 2)
        self.assertIsNone(fewest_moves(rules, messages, [("cipher", "eve")]))
        letters = sorted({layer for takes, puts, _ in rules for layer in takes + puts})
        on_top = (2, [0], [(0, ("cipher", "eve"), 1)] + [(1, layer, 1) for layer in letters], [1])
        held = both(grown(rules, machine_of(messages)), on_top)
        self.assertEqual(only_of(held, (1, [], [], [])), [("cipher", "eve"), ("cipher", "ann")])
        self.assertIsNone(only_of(grown(rules, machine_of(messages)), paper))
        row = [("cipher", "bob"), ("label", "ann"), ("cipher", "bob")]
        self.assertEqual(fewest_moves(rules_of(P, [strong]), [(row, 7)], []), 13)


class TestComings(unittest.TestCase):
    def test_by_trying(self):
        none, some = 0, 0
        for chance in plain.chances(250):
            rules = plain.random_rules(chance, LETTERS, chance.randint(1, 4), (0, 2), (0, 2))
            messages = [(plain.random_layers(chance, LETTERS, 0, 3), 0) for _ in range(chance.randint(0, 2))]
            came = plain.nearest(rules, [layers for layers, _ in messages], 4, 8)
            for layers in words_up_to(LETTERS, 3):
                number = fewest_moves(rules, messages, layers)
                if tuple(layers) in came:
                    self.assertEqual(number, came[tuple(layers)])
                    some += 1
                elif number is None:
                    none += 1
                else:
                    self.assertGreater(number, 4)
        self.assertGreater(min(none, some), 300)

    def test_just_one(self):
        for chance in plain.chances(150):
            rules = plain.random_rules(chance, LETTERS, chance.randint(1, 4), (0, 3), (0, 3))
            messages = [(plain.random_layers(chance, LETTERS, 0, 3), 0) for _ in range(chance.randint(0, 2))]
            for layers in words_up_to(LETTERS, 2):
                number = fewest_moves(rules, messages, layers)
                machine = never(rules, messages, layers)
                self.assertNotEqual(number is None, machine is None)
                if number is None:
                    self.assertTrue(is_machine(machine))
                    self.assertIsNone(judged_never(rules, messages, layers, machine))
                    self.assertIsNone(attack_to(rules, messages, layers, 10 ** 9))
                    if not layers:
                        self.assertIsNone(judged_paper(rules, messages, machine))
                else:
                    index, moves = attack_to(rules, messages, layers, number)
                    self.assertEqual(len(moves), number)
                    row = messages[index][0]
                    for rule in moves:
                        row = after(rules, row, rule)
                    self.assertEqual(row, layers)
                    self.assertIs(is_attack_to(rules, messages, layers, (index, moves)), True)
                    self.assertIs(is_attack_to(rules, messages, layers, [index, tuple(moves)]), True)
                    self.assertIsNone(attack_to(rules, messages, layers, number - 1) if number else None)

    def test_the_nearest_message(self):
        messages = [([w1, w1], 0), ([w1], 0), ([w2], 0), ([w1], 5)]
        rules = [([w1], [], "a"), ([w2], [w1], "b")]
        self.assertEqual(attack_to(rules, messages, [], 5), (1, [0]))
        self.assertEqual(attack_to(rules, messages, [w1], 5), (1, []))
        self.assertEqual(attack_to(rules, messages, [w1, w1], 0), (0, []))
        self.assertIsNone(attack_to(rules, [], [], 5))

    def test_layers_that_no_rule_knows(self):
        other = ("label", "zoe")
        self.assertEqual(fewest_moves(r, [([w1, other], 0)], [w3, other]), 2)
        self.assertIsNone(fewest_moves(r, [([w1, other], 0)], [w3]))
        self.assertIsNone(fewest_moves(r, L, [other]))
        self.assertEqual(fewest_moves([], [([other], 0)], [other]), 0)
        self.assertEqual(attack_to([], [([], 0)], [], 0), (0, []))

    def test_is_attack_to(self):
        for thing in things() + [(0, [0]), (1, [0, 1]), (-1, [0, 1]), (0, [0, 2]), (0, [0, -1]), (0, [False, 1]), (0, [1, 0]),
                                 (0, [0, 1, 1]), (False, [0, 1]), (0, "01"), (0, [0, 1], 0), (0,), (0, [0, True]), (0.0, [0, 1]),
                                 (0, [0, 1.0]), (0, {0: 1}), (10 ** 3000, [0, 1]), (0, [0, 10 ** 3000]), (0, None)]:
            self.assertIs(is_attack_to(r, L, [w3], thing), False)
        for thing in things():
            self.assertIs(is_attack_to(r, L, [w3], (0, [thing])), False)
            self.assertIs(is_attack_to(r, L, [w3], (thing, [0, 1])), False)
        self.assertIs(is_attack_to(r, L, [w1], (0, [])), True)
        self.assertIs(is_attack_to(r, L, [], (0, [1])), False)
        self.assertIs(is_attack_to([([w1, w1], [], 0)], L, [], (0, [0])), False)


class TestJudged(unittest.TestCase):
    def test_order(self):
        self.assertEqual(judged_never(r, [([w2, w1], 7), ([], 1)], [w1], M), ("message", 1))
        self.assertEqual(judged_never(r, L, [w1], (2, [0], M[2][:-1], [1])), ("rule", 0, 1))
        self.assertEqual(judged_never(r, L, [w1], M), ("taken", 1))
        self.assertIsNone(judged_never(r, L, [w2], M))
        self.assertIsNone(judged_never(r, L, [], M))
        self.assertEqual(judged_never(r, L, [], (2, [0], M[2], [0, 1])), ("taken", 0))
        many = (4, [0], [(0, w1, 1), (0, w1, 2), (0, w1, 3)], [2, 3])
        self.assertEqual(judged_never([], [], [w1], many), ("taken", 2))

    def test_as_papers_are(self):
        for chance in plain.chances(150):
            machine = plain.random_machine(chance, LETTERS, chance.randint(1, 4), 7)
            rules = plain.random_rules(chance, LETTERS, chance.randint(0, 2), (0, 2), (0, 2))
            told, paper = judged_never(rules, [], [], machine), judged_paper(rules, [], machine)
            self.assertEqual(told, ("taken", paper[1]) if paper and paper[0] == "bare" else paper)
            for layers in words_up_to(LETTERS, 2):
                told = judged_never(rules, [], layers, machine)
                if told is None:
                    self.assertFalse(is_taken(machine, layers))
                elif told[0] == "taken":
                    self.assertEqual(told[1], min(plain.led(machine, machine[1], layers) & set(machine[3])))

    def test_wrong_machines(self):
        for thing in NO_MACHINES:
            with self.assertRaises(ValueError):
                judged_never(r, L, [w2], thing)


class TestLimits(unittest.TestCase):
    def test_rules_and_messages(self):
        letters = [("word", number) for number in range(10)] + [(kind, agent) for kind in ("cipher", "seal") for agent in AGENTS[:6]]
        begin = time.time()
        for seed in range(4):
            chance = random.Random(seed)
            rules = plain.random_rules(chance, letters[:8 * (seed % 2) + 6], 120, (0, 6), (0, 6))
            messages = [(plain.random_layers(chance, letters[:6], 12, 12), 0) for _ in range(4)]
            layers = plain.random_layers(chance, letters[:6], 12, 12)
            number = fewest_moves(rules, messages, layers)
            machine = never(rules, messages, layers)
            self.assertNotEqual(number is None, machine is None)
            if number is not None:
                self.assertEqual(len(attack_to(rules, messages, layers, 1000)[1]), number)
            self.assertEqual(is_taken(grown(rules, machine_of(messages)), layers), number is not None)
        self.assertLess(time.time() - begin, 40)

    def test_a_thousand_moves(self):
        rules = [([w1, w1], [w2], 0), ([w2], [w1, w1, w3], 0), ([w3], [], 0), ([], [w3, w3], 0)]
        chain = [([("word", at)], [("word", at + 1)] * 3, 0) for at in range(6)] + [([("word", 6)], [], 0)]
        self.assertEqual(fewest_moves(chain, [([("word", 0)], 0)], []), sum(3 ** at for at in range(7)))
        self.assertEqual(len(attack_to(chain, [([("word", 0)], 0)], [], 1093)[1]), 1093)
        self.assertIsNone(attack_to(chain, [([("word", 0)], 0)], [], 1092))
        self.assertEqual(fewest_moves(rules, [([w1, w1], 0)], [w1, w1, w3]), 2)

    def test_numbers_of_a_thousand_figures(self):
        steps = [("label", agent) for agent in AGENTS] + [("word", number) for number in range(10)]
        marks = [("cipher", agent) for agent in AGENTS[:5]]
        places = [(step, mark) for step in steps for mark in marks][:119]
        rules = [(list(here), list(further) * 3, None) for here, further in zip(places, places[1:])]
        rules.append((list(places[-1]), [], None))
        number = 0
        for _ in places:
            number = 1 + 3 * number
        self.assertEqual(fewest_moves(rules, [(list(places[0]) * 6, 0)], list(places[0])), 5 * number)


if __name__ == "__main__":
    unittest.main()

"""Machines of all that comes: [12.1], and what [12.5] says of them."""

import random
import time
import unittest

from roadheld.alike import least_machine
from roadheld.comings import attack_to
from roadheld.folding import folded
from roadheld.growing import grown, machine_of, turned
from roadheld.machines import is_machine, is_taken
from roadheld.papers import judged_paper
from roadheld.rules import first_messages, rules_of
from tests import plain
from tests.samples import L, M, Odd, P, deep, r, tight, w1, w2, w3, weak, words_up_to

LETTERS = [w1, w2]


def fold(machine):
    """What comes of a machine when it is folded."""
    many, firsts, rows, ends = machine
    layers = sorted({layer for _, layer, _ in rows})
    goings = [{} for _ in range(many)]
    for state, layer, other in rows:
        at = layers.index(layer)
        goings[state][at] = goings[state].get(at, 0) | 1 << other
    lots = [sum(1 << state for state in states) for states in (firsts, ends)]
    return folded([list(going.items()) for going in goings], lots[0], lots[1], layers)


class TestGrown(unittest.TestCase):
    def test_example(self):
        machine = grown(r, machine_of(L))
        for layers in words_up_to([w1, w2, w3], 4):
            self.assertIs(is_taken(machine, layers), layers in ([w1], [w2, w3], [w3]))
        self.assertIsNone(judged_paper(r, L, machine))

    def test_posts(self):
        rules = rules_of(P, [tight])
        messages = [([("cipher", "bob"), ("label", "ann")], 7)]
        machine = grown(rules, machine_of(messages))
        self.assertIsNone(judged_paper(rules, messages, machine))
        self.assertFalse(is_taken(machine, []))
        self.assertTrue(is_taken(machine, [("cipher", "eve"), ("cipher", "ann")]))
        loose = rules_of(P, [weak])
        self.assertTrue(is_taken(grown(loose, machine_of(first_messages(P, [weak], "ann", "bob", 7))), []))

    def test_it_keeps_the_rules(self):
        for chance in plain.chances(300):
            rules = plain.random_rules(chance, LETTERS, chance.randint(0, 5), (0, 3), (0, 3))
            machine = plain.random_machine(chance, LETTERS, chance.randint(1, 4), 6)
            told = grown(rules, machine)
            self.assertTrue(is_machine(told))
            for rule in rules:
                self.assertTrue(plain.is_kept(told, rule))
            for layers in words_up_to(LETTERS, 4):
                self.assertTrue(not plain.is_taken(machine, layers) or plain.is_taken(told, layers))

    def test_it_takes_what_comes(self):
        for chance in plain.chances(300):
            rules = plain.random_rules(chance, LETTERS, chance.randint(1, 4), (0, 2), (0, 2))
            machine = plain.random_machine(chance, LETTERS, chance.randint(1, 3), 4)
            told = grown(rules, machine)
            rows = [tuple(layers) for layers in words_up_to(LETTERS, 5) if plain.is_taken(machine, layers)]
            for layers in plain.nearest(rules, rows, 5, 5):
                self.assertTrue(plain.is_taken(told, layers))

    def test_it_takes_nothing_else(self):
        # Where no rule puts more than it takes, all that comes of short lists comes of lists as short.
        for chance in plain.chances(300):
            rules = [rule for rule in plain.random_rules(chance, LETTERS, 6, (0, 3), (0, 3)) if len(rule[1]) <= len(rule[0])]
            messages = [(plain.random_layers(chance, LETTERS, 0, 4), 0) for _ in range(2)]
            told = grown(rules, machine_of(messages))
            came = plain.nearest(rules, [layers for layers, _ in messages], 40, 4)
            for layers in words_up_to(LETTERS, 4):
                self.assertIs(plain.is_taken(told, layers), tuple(layers) in came)

    def test_it_takes_nothing_else_of_growing_lists(self):
        seen = 0
        for chance in plain.chances(200):
            rules = plain.random_rules(chance, LETTERS, 3, (0, 2), (0, 3))
            messages = [(plain.random_layers(chance, LETTERS, 0, 2), 0)]
            told = grown(rules, machine_of(messages))
            for layers in words_up_to(LETTERS, 3):
                found = attack_to(rules, messages, layers, 10 ** 6)
                self.assertIs(plain.is_taken(told, layers), found is not None)
                if found is not None:
                    row = messages[found[0]][0]
                    for rule in found[1]:
                        self.assertEqual(row[:len(rules[rule][0])], rules[rule][0])
                        row = rules[rule][1] + row[len(rules[rule][0]):]
                    self.assertEqual(row, layers)
                    seen += 1
        self.assertGreater(seen, 500)

    def test_whatever_keeps_them_takes_it(self):
        for chance in plain.chances(200):
            rules = plain.random_rules(chance, LETTERS, 2, (0, 2), (0, 2))
            other = plain.random_machine(chance, LETTERS, 3, 9)
            if not all(plain.is_kept(other, rule) for rule in rules):
                continue
            told = grown(rules, other)
            for layers in words_up_to(LETTERS, 5):
                self.assertIs(plain.is_taken(told, layers), plain.is_taken(other, layers))

    def test_first_states_to_which_rows_lead(self):
        machine = (1, [0], [(0, w1, 0)], [0])
        told = grown([([w1], [w2], 0)], machine)
        for layers in words_up_to(LETTERS, 4):
            self.assertIs(is_taken(told, layers), w2 not in layers[1:])

    def test_nothing(self):
        self.assertEqual(grown([([], [w1], 0)], (2, [0], [(0, w1, 0)], [])), (1, [], [], []))
        self.assertEqual(grown([], (10 ** 30, [], [], [])), (1, [], [], []))
        told = grown([([], [], 0), ([w1], [], 0)], machine_of([([w1, w1], 0)]))
        self.assertEqual([is_taken(told, [w1] * many) for many in range(4)], [True, True, True, False])


class TestFolded(unittest.TestCase):
    def test_it_takes_the_same_and_keeps_the_same(self):
        fewer = 0
        for chance in plain.chances(400):
            machine = plain.random_machine(chance, LETTERS, chance.randint(1, 6), 10)
            told = fold(machine)
            self.assertTrue(is_machine(told))
            self.assertEqual(fold(told), told)
            for layers in words_up_to(LETTERS, 4):
                self.assertIs(plain.is_taken(told, layers), plain.is_taken(machine, layers))
            for rule in plain.random_rules(chance, LETTERS, 5, (0, 2), (0, 2)):
                self.assertTrue(plain.is_kept(told, rule) or not plain.is_kept(machine, rule))
            fewer += told[0] < machine[0]
        self.assertGreater(fewer, 50)

    def test_by_hand(self):
        chain = (4, [0], [(0, w1, 1), (0, w1, 2), (1, w2, 3), (2, w2, 3)], [3])
        self.assertEqual(fold(chain), (3, [0], [(0, w1, 1), (1, w2, 2)], [2]))
        self.assertEqual(fold((3, [0, 1], [(0, w1, 1), (1, w1, 2), (2, w1, 0)], [0, 1, 2])), (1, [0], [(0, w1, 0)], [0]))
        self.assertEqual(fold((3, [0], [(0, w1, 1), (1, w1, 2)], [0, 1, 2])), (3, [0], [(0, w1, 1), (1, w1, 2)], [0, 1, 2]))
        self.assertEqual(fold((1, [], [], [])), (1, [], [], []))


class TestMachineOf(unittest.TestCase):
    def test_by_trying(self):
        for chance in plain.chances(40):
            messages = [(plain.random_layers(chance, LETTERS, 0, 4), at) for at in range(chance.randint(0, 5))]
            told = machine_of(messages)
            self.assertTrue(is_machine(told))
            rows = [layers for layers, _ in messages]
            for layers in words_up_to(LETTERS, 5):
                self.assertIs(is_taken(told, layers), layers in rows)

    def test_none(self):
        self.assertTrue(is_machine(machine_of([])))
        self.assertEqual(least_machine(machine_of([])), (1, [0], [], []))


class TestTurned(unittest.TestCase):
    def test_exchanged(self):
        third, other = Odd(), deep()
        told = turned([[(w1, w2), [w3], third], ((), [list(w1)], other)])
        self.assertEqual([rule[:2] for rule in told], [([w3], [w1, w2]), ([w1], [])])
        self.assertIs(told[0][2], third)
        self.assertIs(told[1][2], other)
        self.assertIsInstance(told[0], tuple)
        self.assertEqual(turned([]), [])
        self.assertEqual(turned(turned(r)), r)

    def test_what_can_come_to_a_machine(self):
        for chance in plain.chances(150):
            rules = [rule for rule in plain.random_rules(chance, LETTERS, 5, (0, 2), (0, 2)) if len(rule[1]) <= len(rule[0])]
            machine = plain.random_machine(chance, LETTERS, 3, 6)
            back = grown(turned(rules), machine)
            for layers in words_up_to(LETTERS, 4):
                came = plain.nearest(rules, [layers], 40, 4)
                self.assertIs(plain.is_taken(back, layers), any(plain.is_taken(machine, row) for row in came))


class TestLimits(unittest.TestCase):
    def test_grown(self):
        letters = [("word", number) for number in range(10)] + [("cipher", "ann"), ("seal", "ann")]
        begin = time.time()
        for seed in range(3):
            chance = random.Random(seed)
            rules = plain.random_rules(chance, letters, 120, (0, 6), (0, 6))
            machine = plain.random_machine(chance, letters, 100, 3200)
            told = grown(rules, machine)
            self.assertIn((judged_paper(rules, [], told) or ("bare",))[0], ("bare",))
        self.assertLess(time.time() - begin, 30)


if __name__ == "__main__":
    unittest.main()

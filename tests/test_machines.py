"""Machines: [10.1], [10.3], [10.4], and what [10.6] says of them."""

import random
import time
import unittest

from roadheld.machines import both, either, is_machine, is_taken, pruned, states_behind
from tests import plain
from tests.calls import NO_MACHINES
from tests.samples import M, deep, listed, things, tupled, w1, w2, w3, words_up_to

LETTERS = [w1, w2, ("cipher", "ann")]


class TestMachines(unittest.TestCase):
    def test_is_machine(self):
        for machine in (M, (1, [], [], []), (1, [0], [], [0]), (3, [0, 2], [(2, w1, 0), (2, w1, 1), (2, w2, 0)], [1, 2]),
                        (10 ** 3000, [0], [(0, w1, 10 ** 2999)], [5])):
            self.assertIs(is_machine(machine), True)
            self.assertIs(is_machine(listed(machine)), True)
            self.assertIs(is_machine(tupled(machine)), True)
        for thing in NO_MACHINES + things() + [deep(), (1, [deep()], [], []), (1, [], [deep()], []), (1, [], [], deep())]:
            self.assertIs(is_machine(thing), False)
        for at in range(4):
            for thing in things():
                broken = list(M)
                broken[at] = thing
                self.assertIs(is_machine(broken), False)
        for at in range(3):
            for thing in things():
                row = [0, w1, 1]
                row[at] = thing
                self.assertIs(is_machine((2, [0], [row], [1])), False)

    def test_example(self):
        self.assertEqual(states_behind(M, [0], [w2, w3]), [1])
        self.assertIs(is_taken(M, [w2, w2, w1]), True)
        self.assertEqual(both(M, (1, [0], [(0, w2, 0), (0, w3, 0)], [0])),
                         (2, [0], [(0, w2, 0), (0, w3, 1)], [1]))

    def test_states_behind(self):
        machine = (4, [0, 3], [(0, w1, 1), (0, w1, 2), (1, w2, 3), (2, w2, 0), (3, w1, 3)], [3])
        self.assertEqual(states_behind(machine, [3, 0], []), [0, 3])
        self.assertEqual(states_behind(machine, [], []), [])
        self.assertEqual(states_behind(machine, [], [w1]), [])
        self.assertEqual(states_behind(machine, [3, 0], [w1]), [1, 2, 3])
        self.assertEqual(states_behind(machine, (0,), (w1, w2)), [0, 3])
        self.assertEqual(states_behind(machine, [0], [w2]), [])
        self.assertEqual(states_behind(machine, [0], [("label", "zoe")]), [])

    def test_taken_by_trying(self):
        for chance in plain.chances(60):
            machine = plain.random_machine(chance, LETTERS, chance.randint(1, 5), 8)
            for layers in words_up_to(LETTERS, 4):
                self.assertIs(is_taken(machine, layers), plain.is_taken(machine, layers))
                self.assertEqual(states_behind(machine, machine[1], layers), sorted(plain.led(machine, machine[1], layers)))

    def test_kinds_told(self):
        for told in (both(M, M), either(M, M), pruned(M)):
            self.assertEqual([part.__class__ for part in told], [int, list, list, list])
            self.assertIsInstance(told, tuple)
            self.assertIsInstance(told[2][0], tuple)
            self.assertIsInstance(told[2][0][1], tuple)


class TestPutTogether(unittest.TestCase):
    def test_numbers(self):
        other = (3, [0, 2], [(0, w1, 1), (1, w2, 2), (2, w1, 0)], [1, 2])
        rows = sorted((s * 3 + t, a, u * 3 + v) for s, a, u in M[2] for t, b, v in other[2] if a == b)
        self.assertEqual(both(M, other), (6, [0, 2], rows, [4, 5]))
        self.assertEqual(either(M, other), (5, [0, 2, 4], M[2] + [(2, w1, 3), (3, w2, 4), (4, w1, 2)], [1, 3, 4]))

    def test_taken_by_trying(self):
        for chance in plain.chances(60):
            one = plain.random_machine(chance, LETTERS, chance.randint(1, 4), 8)
            other = plain.random_machine(chance, LETTERS, chance.randint(1, 4), 8)
            paired, joined = both(one, other), either(one, other)
            self.assertTrue(is_machine(paired) and is_machine(joined))
            rows = sorted((s * other[0] + t, a, u * other[0] + v) for s, a, u in one[2] for t, b, v in other[2] if a == b)
            self.assertEqual(paired[2], rows)
            for layers in words_up_to(LETTERS, 4):
                taken = [plain.is_taken(machine, layers) for machine in (one, other)]
                self.assertIs(is_taken(paired, layers), all(taken))
                self.assertIs(is_taken(joined, layers), any(taken))


class TestPruned(unittest.TestCase):
    def test_edges(self):
        for machine in ((1, [], [], []), (3, [0], [(0, w1, 1)], [2]), (2, [], [(0, w1, 1)], [1]), (2, [0], [(0, w1, 0)], []),
                        (5, [0], [(1, w1, 2)], [1, 2])):
            self.assertEqual(pruned(machine), (1, [], [], []))
        self.assertEqual(pruned((9, [7], [], [7])), (1, [0], [], [0]))
        machine = (6, [1, 2, 5], [(0, w1, 3), (1, w1, 3), (1, w2, 4), (2, w1, 0), (3, w1, 5), (5, w1, 5)], [0, 3, 4])
        self.assertEqual(pruned(machine), (5, [1, 2], [(0, w1, 3), (1, w1, 3), (1, w2, 4), (2, w1, 0)], [0, 3, 4]))
        self.assertEqual(pruned((10 ** 30, [5], [(5, w1, 10 ** 29)], [10 ** 29])), (2, [0], [(0, w1, 1)], [1]))

    def test_by_trying(self):
        for chance in plain.chances(80):
            machine = plain.random_machine(chance, LETTERS, chance.randint(1, 6), 7)
            told = pruned(machine)
            self.assertTrue(is_machine(told))
            self.assertEqual(pruned(told), told)
            for layers in words_up_to(LETTERS, 4):
                self.assertIs(is_taken(told, layers), plain.is_taken(machine, layers))
            if told[1]:
                for state in range(told[0]):
                    reached = [layers for layers in words_up_to(LETTERS, 5) if state in plain.led(told, told[1], layers)]
                    left = [layers for layers in words_up_to(LETTERS, 5) if plain.led(told, [state], layers) & set(told[3])]
                    self.assertTrue(reached and left)

    def test_limits(self):
        letters = [("word", number) for number in range(10)] + [("cipher", "ann"), ("seal", "ann")]
        begin = time.time()
        for seed in range(2):
            chance = random.Random(seed)
            one = plain.random_machine(chance, letters, 100, 3200)
            other = plain.random_machine(chance, letters, 100, 900)
            self.assertGreater(len(one[2]), 2900)
            self.assertTrue(is_machine(one))
            joined = either(one, other)
            self.assertEqual(joined[0], 200)
            self.assertLessEqual(pruned(joined)[0], 200)
            states_behind(one, list(range(100)), letters)
            paired = both(one, other)
            self.assertEqual(paired[0], 10000)
            self.assertLessEqual(pruned(paired)[0], 10000)
        self.assertLess(time.time() - begin, 30)


if __name__ == "__main__":
    unittest.main()

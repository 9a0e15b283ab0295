"""Attacks tightened: [9.6], and what [9.8] says of it."""

import time
import unittest

from roadheld.comings import attack_to
from roadheld.errors import BadLayers, BadMoves, BadRules
from roadheld.runs import laid_by
from roadheld.tightening import loose_stretch, tightened
from tests import plain
from tests.samples import deep, listed, things, tupled, w1, w2
from tests.test_packing import all_attacks
from tests.test_runs import OTHERS, ROW, go

LETTERS = [w1, w2]
LOOSE = [2, 3, 2, 0, 1, 2, 0, 1]


def is_attack(rules, layers, moves):
    laid = go(rules, layers, moves)
    return len(laid) == len(moves) + 1 and laid[-1] == []


def stretch_by_trying(rules, layers, moves):
    found = [(i, -j) for i in range(len(moves)) for j in range(i + 1, len(moves) + 1) if is_attack(rules, layers, moves[:i] + moves[j:])]
    return (min(found)[0], -min(found)[1]) if found else None


class TestExample(unittest.TestCase):
    def test_loose(self):
        self.assertEqual(loose_stretch(OTHERS, ROW, LOOSE), (0, 2))
        self.assertEqual(tightened(OTHERS, ROW, LOOSE), [2, 0, 1, 2, 0, 1])
        self.assertIsNone(loose_stretch(OTHERS, ROW, [2, 0, 1, 2, 0, 1]))


class TestStretches(unittest.TestCase):
    def test_by_trying(self):
        loose = tight = 0
        for chance in plain.chances(400):
            rules = plain.random_rules(chance, LETTERS, chance.randint(1, 4), (0, 2), (0, 2)) + [([w1], [], 8)]
            layers = plain.random_layers(chance, LETTERS, 0, 3)
            for moves in all_attacks(rules, layers, 6, 4)[-10:]:
                due = stretch_by_trying(rules, layers, moves)
                self.assertEqual(loose_stretch(rules, layers, moves), due)
                left = moves
                while due is not None:
                    left = left[:due[0]] + left[due[1]:]
                    due = stretch_by_trying(rules, layers, left)
                told = tightened(rules, layers, moves)
                self.assertEqual(told, left)
                self.assertIsNone(loose_stretch(rules, layers, told))
                laid = laid_by(rules, layers, told)
                self.assertEqual(len({tuple(row) for row in laid}), len(laid))
                loose += told != moves
                tight += told == moves
        self.assertGreater(loose, 100)
        self.assertGreater(tight, 100)

    def test_nothing_in_the_midst(self):
        # An attack may leave nothing before its end, too: then all behind can be left out.
        rules = [([w1], [], 0), ([], [w1], 1)]
        self.assertEqual(loose_stretch(rules, [w1], [0, 1, 0]), (0, 2))
        self.assertEqual(tightened(rules, [w1], [0, 1, 0]), [0])
        self.assertEqual(loose_stretch(rules, [], [1, 0]), (0, 2))
        self.assertEqual(tightened(rules, [], [1, 0]), [])
        self.assertIsNone(loose_stretch(rules, [], []))
        self.assertEqual(tightened([], [], ()), [])
        self.assertEqual(loose_stretch([([], [], 0), ([w1], [], 1)], [w1], [1, 0]), (1, 2))

    def test_fewest_are_tight(self):
        for chance in plain.chances(200):
            rules = plain.random_rules(chance, LETTERS, 5, (0, 2), (0, 2))
            layers = plain.random_layers(chance, LETTERS, 1, 3)
            found = attack_to(rules, [(layers, 0)], [], 30)
            if found is not None:
                self.assertIsNone(loose_stretch(rules, layers, found[1]))
                self.assertEqual(tightened(rules, layers, found[1]), found[1])

    def test_wrong(self):
        for call in (loose_stretch, tightened):
            for moves, index in (([2, 0, 1], 3), ([], 0), ([4], 0), ([2, 0, 0], 2), ([2, True], 1), (LOOSE + [2], 9), (LOOSE + [0], 8), ({}, 0), (None, 0)):
                with self.assertRaises(BadMoves) as caught:
                    call(OTHERS, ROW, moves)
                self.assertEqual(caught.exception.index, index)
            for thing in things() + [deep()]:
                with self.assertRaises(BadMoves) as caught:
                    call(OTHERS, [w1], thing)
                self.assertEqual(caught.exception.index, 0)
                with self.assertRaises(BadRules):
                    call([thing], thing, thing)
                with self.assertRaises(BadLayers):
                    call(OTHERS, [thing], thing)

    def test_lists_for_tuples(self):
        for kind in (listed, tupled):
            self.assertEqual(loose_stretch(rules=kind(OTHERS), layers=kind(ROW), moves=kind(LOOSE)), (0, 2))
            self.assertEqual(tightened(rules=kind(OTHERS), layers=kind(ROW), moves=kind(LOOSE)), [2, 0, 1, 2, 0, 1])
        moves = [2, 0, 1, 2, 0, 1]
        tightened(OTHERS, ROW, moves).clear()
        self.assertEqual(moves, [2, 0, 1, 2, 0, 1])

    def test_limits(self):
        begin = time.time()
        rules = [([("word", at)], [("word", at + 1), ("word", at + 1)], at) for at in range(6)] + [([("word", 6)], [], 6)]
        _, moves = attack_to(rules, [([("word", 0)], 0)], [], 1000)
        self.assertIsNone(loose_stretch(rules, [("word", 0)], moves))
        loose = [2, 3] * 15 + [2, 0, 1] + [2, 3] * 10 + [2, 0, 1]
        self.assertEqual(tightened(OTHERS, ROW, loose), [2, 0, 1, 2, 0, 1])
        self.assertEqual(loose_stretch(OTHERS, ROW, loose), (0, 30))
        self.assertEqual(tightened(rules[6:], [("word", 6)] * 35, [0] * 35), [0] * 35)
        self.assertLess(time.time() - begin, 10)


if __name__ == "__main__":
    unittest.main()

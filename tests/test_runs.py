"""Runs: [9.1], [9.2], and what [9.8] says of them."""

import random
import time
import unittest

from roadheld.errors import BadLayers, BadMoves, BadRules
from roadheld.runs import is_run, laid_by, offs
from tests import plain
from tests.samples import Odd, deep, listed, things, tupled, w1, w2, w3

OTHERS = [([w1, w2], [w3], None), ([w3], [], None), ([], [w1], None), ([w1], [], None)]
ROW = [w2, w2]
LETTERS = [w1, w2, w3]


def go(rules, layers, moves):
    """What lies there at first and behind each move, as far as they can be done."""
    laid = [list(layers)]
    for move in moves:
        if not isinstance(move, int) or isinstance(move, bool) or not 0 <= move < len(rules):
            return laid
        takes, puts, _ = rules[move]
        if laid[-1][:len(takes)] != list(takes):
            return laid
        laid.append(list(puts) + laid[-1][len(takes):])
    return laid


def off_by_marks(rules, layers, moves):
    """By which moves layers go off that are marked, each by a sign of its own."""
    laid = [(layer, at) for at, layer in enumerate(layers)]
    told = [None] * len(layers)
    for number, move in enumerate(moves, 1):
        takes, puts, _ = rules[move]
        for _, mark in laid[:len(takes)]:
            if mark is not None:
                told[mark] = number
        laid = [(layer, None) for layer in puts] + laid[len(takes):]
    return told


def random_run(chance, rules, layers, most):
    """Moves by chance that can be done one behind another."""
    moves, laid = [], list(layers)
    for _ in range(chance.randint(0, most)):
        may = [at for at, rule in enumerate(rules) if laid[:len(rule[0])] == rule[0]]
        if not may:
            break
        moves.append(chance.choice(may))
        laid = rules[moves[-1]][1] + laid[len(rules[moves[-1]][0]):]
    return moves


class TestExample(unittest.TestCase):
    def test_offs(self):
        self.assertEqual(offs(OTHERS, ROW, [2, 0, 1, 2, 0, 1]), [2, 5])
        self.assertEqual(offs(OTHERS, ROW, [2, 3, 2, 0, 1, 2, 0, 1]), [4, 7])
        self.assertEqual(laid_by(OTHERS, ROW, [2, 0, 1, 2, 0, 1])[-1], [])
        self.assertIs(is_run(OTHERS, ROW, [2, 0, 1, 2, 0, 1]), True)


class TestRuns(unittest.TestCase):
    def test_by_trying(self):
        for chance in plain.chances(400):
            rules = plain.random_rules(chance, LETTERS, chance.randint(1, 6), (0, 2), (0, 2))
            layers = plain.random_layers(chance, LETTERS, 0, 3)
            moves = random_run(chance, rules, layers, 8)
            self.assertIs(is_run(rules, layers, moves), True)
            self.assertEqual(laid_by(rules, layers, moves), go(rules, layers, moves))
            self.assertEqual(offs(rules, layers, moves), off_by_marks(rules, layers, moves))
            for other in plain.bent(moves, [0, 1, 5, None, -1, True, "0"]):
                laid = go(rules, layers, other)
                right = len(laid) == len(other) + 1
                self.assertIs(is_run(rules, layers, other), right)
                for function in (laid_by, offs):
                    if right:
                        function(rules, layers, other)
                        continue
                    with self.assertRaises(BadMoves) as caught:
                        function(rules, layers, other)
                    self.assertEqual(caught.exception.index, len(laid) - 1)

    def test_others_beneath(self):
        for chance in plain.chances(100):
            rules = plain.random_rules(chance, LETTERS, 5, (0, 2), (0, 2))
            layers = plain.random_layers(chance, LETTERS, 0, 3)
            beneath = plain.random_layers(chance, LETTERS, 0, 3)
            moves = random_run(chance, rules, layers, 6)
            self.assertTrue(is_run(rules, layers + beneath, moves))
            self.assertEqual(laid_by(rules, layers + beneath, moves), [row + beneath for row in laid_by(rules, layers, moves)])
            self.assertEqual(offs(rules, layers + beneath, moves), offs(rules, layers, moves) + [None] * len(beneath))

    def test_any_object(self):
        for thing in things() + [deep(), [deep()], Odd(), [Odd()], {0: 0}, "00", range(1), [10 ** 3000]]:
            if isinstance(thing, (list, tuple)) and not thing:
                continue
            self.assertIs(is_run(OTHERS, [w1], thing), False)
            for function in (laid_by, offs):
                with self.assertRaises(BadMoves) as caught:
                    function(OTHERS, [w1], thing)
                self.assertEqual(caught.exception.index, 0)
        self.assertIs(is_run(OTHERS, [], []), True)
        self.assertEqual((laid_by([], [], ()), offs([], [w1], [])), ([[]], [None]))

    def test_first_error(self):
        for function in (is_run, laid_by, offs):
            with self.assertRaises(BadRules) as caught:
                function([OTHERS[0], 1], 1, 1)
            self.assertEqual(caught.exception.index, 1)
            with self.assertRaises(BadLayers):
                function(OTHERS, [("word", 10)], 1)

    def test_lists_for_tuples(self):
        moves = [2, 0, 1]
        for kind in (listed, tupled):
            self.assertEqual(laid_by(kind(OTHERS), kind(ROW), kind(moves)), laid_by(OTHERS, ROW, moves))
            self.assertEqual(offs(rules=kind(OTHERS), layers=kind(ROW), moves=kind(moves)), [2, None])
        told = laid_by(OTHERS, ROW, moves)
        told[0].clear()
        told[1].append(5)
        self.assertEqual(laid_by(OTHERS, ROW, moves)[0], [w2, w2])
        self.assertEqual(ROW, [w2, w2])

    def test_limits(self):
        letters = [("word", at) for at in range(10)]
        chance = random.Random(3)
        rules = plain.random_rules(chance, letters, 300, (0, 6), (0, 6))
        layers = plain.random_layers(chance, letters, 35, 35)
        begin = time.time()
        moves = random_run(chance, rules, layers, 0) or [at for at, rule in enumerate(rules) if not rule[0]] * 200
        moves = moves[:200]
        self.assertEqual(laid_by(rules, layers, moves), go(rules, layers, moves))
        self.assertEqual(offs(rules, layers, moves), off_by_marks(rules, layers, moves))
        self.assertLess(time.time() - begin, 5)


if __name__ == "__main__":
    unittest.main()

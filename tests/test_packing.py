"""Attacks packed: [9.5], and what [9.8] says of it."""

import random
import time
import unittest

from roadheld.books import counts, is_book
from roadheld.comings import attack_to
from roadheld.drops import down
from roadheld.errors import BadLayers, BadMoves, BadRules
from roadheld.packing import packed
from tests import plain
from tests.samples import deep, listed, things, tupled, w1, w2, w3
from tests.test_runs import OTHERS, ROW, go

LETTERS = [w1, w2]


def unrolled(book, row):
    """The run of a row."""
    _, rule, used = book[row]
    return [] if rule is None else [rule] + [move for other in used for move in unrolled(book, other)]


def gone_through(book, used):
    """The rows in the order in which they are to be written, each behind those that it uses."""
    order = []

    def visit(row):
        for other in book[row][2]:
            visit(other)
        if row not in order:
            order.append(row)

    for row in used:
        visit(row)
    return order


def all_attacks(rules, layers, most, longest):
    """All short runs that leave nothing at their end alone."""
    told, edge = [], [([], list(layers))]
    for _ in range(most + 1):
        further = []
        for moves, laid in edge:
            if not laid:
                told.append(moves)
            elif len(laid) <= longest:
                further += [(moves + [at], puts + laid[len(takes):]) for at, (takes, puts, _) in enumerate(rules)
                            if laid[:len(takes)] == takes]
        edge = further
    return told


class TestExample(unittest.TestCase):
    def test_six_rows(self):
        book, used = packed(OTHERS, ROW, [2, 3, 2, 0, 1, 2, 0, 1])
        self.assertEqual((len(book), used), (6, [5, 4]))
        self.assertTrue(is_book(OTHERS, book))
        self.assertEqual([unrolled(book, row) for row in used], [[2, 3, 2, 0, 1], [2, 0, 1]])


class TestPacked(unittest.TestCase):
    def told(self, rules, layers, moves):
        """The way of an attack; it is looked at from all sides."""
        book, used = packed(rules, layers, moves)
        self.assertTrue(is_book(rules, book))
        self.assertTrue(plain.is_book(rules, book))
        self.assertTrue(plain.is_way_through(book, used, layers, ()))
        self.assertEqual([move for row in used for move in unrolled(book, row)], moves)
        self.assertEqual(gone_through(book, used), list(range(len(book))))
        rows = [(drop, rule, tuple(its)) for drop, rule, its in book]
        self.assertEqual(len(set(rows)), len(rows))
        self.assertEqual(sum(counts(book)[row] for row in used), len(moves))
        return (book, used)

    def test_all_short_attacks(self):
        many = 0
        for chance in plain.chances(700):
            rules = plain.random_rules(chance, LETTERS, chance.randint(1, 4), (0, 2), (0, 2)) + [([w1], [], 8)]
            layers = plain.random_layers(chance, LETTERS, 0, 3)
            for moves in all_attacks(rules, layers, 5, 4):
                self.told(rules, layers, moves)
                many += 1
        self.assertGreater(many, 1500)

    def test_deeper_controls(self):
        many = 0
        for chance in plain.chances(900):
            rules = plain.random_rules(chance, LETTERS, chance.randint(2, 5), (2, 4), (0, 3)) + [([], [w1], 8), ([], [w2, w1], 9)]
            layers = plain.random_layers(chance, LETTERS, 1, 4)
            for moves in all_attacks(rules, layers, 6, 5):
                self.told(rules, layers, moves)
                many += 1
        self.assertGreater(many, 300)

    def test_fewest(self):
        for chance in plain.chances(150):
            rules = plain.random_rules(chance, LETTERS, 5, (0, 2), (0, 2))
            layers = plain.random_layers(chance, LETTERS, 1, 3)
            least = down(rules, layers)
            found = attack_to(rules, [(layers, 0)], [], 60)
            self.assertEqual(found is None, least is None or least > 60)
            if found is not None:
                book, used = self.told(rules, layers, found[1])
                self.assertEqual(sum(counts(book)[row] for row in used), least)

    def test_refused(self):
        refused = 0
        for chance in plain.chances(200):
            rules = plain.random_rules(chance, LETTERS, 4, (0, 2), (0, 2))
            layers = plain.random_layers(chance, LETTERS, 0, 2)
            for moves in plain.bent([chance.randrange(4) for _ in range(chance.randint(0, 4))], [0, 3, 4, None, False]):
                laid = go(rules, layers, moves)
                if len(laid) <= len(moves):
                    due = len(laid) - 1
                elif laid[-1] or [] in laid[:-1]:
                    due = len(moves)
                else:
                    self.told(rules, layers, list(moves))
                    continue
                refused += due == len(moves)
                with self.assertRaises(BadMoves) as caught:
                    packed(rules, layers, moves)
                self.assertEqual(caught.exception.index, due)
        self.assertGreater(refused, 50)

    def test_nothing(self):
        self.assertEqual(packed([], [], []), ([], []))
        self.assertEqual(packed(OTHERS, (), ()), ([], []))
        for moves in ([2, 3], [2]):
            with self.assertRaises(BadMoves) as caught:
                packed(OTHERS, [], moves)
            self.assertEqual(caught.exception.index, len(moves))
        with self.assertRaises(BadMoves) as caught:
            packed(OTHERS, [w1], [])
        self.assertEqual(caught.exception.index, 0)
        with self.assertRaises(BadMoves) as caught:
            packed(OTHERS, [w1], [3, 2, 3])
        self.assertEqual(caught.exception.index, 3)

    def test_any_object(self):
        for thing in things() + [deep(), [deep()], {0: 2}]:
            with self.assertRaises(BadMoves) as caught:
                packed(OTHERS, [w1], thing)
            self.assertEqual(caught.exception.index, 0)
            with self.assertRaises(BadRules):
                packed([thing], thing, thing)
            with self.assertRaises(BadLayers):
                packed(OTHERS, [thing], thing)

    def test_lists_for_tuples(self):
        moves = [2, 3, 2, 0, 1, 2, 0, 1]
        told = packed(OTHERS, ROW, moves)
        for kind in (listed, tupled):
            self.assertEqual(packed(kind(OTHERS), kind(ROW), kind(moves)), told)
        told[0].clear()
        told[1].clear()
        self.assertEqual(len(packed(rules=OTHERS, layers=ROW, moves=moves)[0]), 6)

    def test_limits(self):
        rules = [([("word", at)], [("word", at + 1), ("word", at + 1)], at) for at in range(6)] + [([("word", 6)], [], 6)]
        _, moves = attack_to(rules, [([("word", 0)], 0)], [], 1000)
        begin = time.time()
        book, used = packed(rules, [("word", 0)], moves)
        self.assertEqual((len(book), used, len(moves)), (7, [6], 127))
        # One layer within another, as deep as there are moves.
        chain = [([w1], [w2, w1], 0), ([w2], [], 1), ([w1], [], 2), ([w2, w1], [w1], 3)]
        for moves in ([0, 1] * 100 + [2], [0] * 150 + [1] * 0):
            if moves[-1] == 2:
                self.told(chain, [w1], moves)
        deeper = [([w1], [w1, w2], 0), ([w1], [], 1), ([w2], [], 2)]
        moves = [0] * 300 + [1] + [2] * 300
        book, used = packed(deeper, [w1], moves)
        self.assertEqual((len(book), counts(book)[used[0]]), (302, 601))
        letters = [("word", at) for at in range(10)]
        chance = random.Random(1)
        rules = plain.random_rules(chance, letters, 300, (1, 3), (0, 3))
        layers = plain.random_layers(chance, letters, 12, 12)
        found = attack_to(rules, [(layers, 0)], [], 1000)
        if found is not None:
            self.told(rules, layers, found[1])
        self.assertLess(time.time() - begin, 10)


if __name__ == "__main__":
    unittest.main()

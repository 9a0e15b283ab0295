"""Ways: [9.3], [9.4], and what [9.8] says of them."""

import random
import time
import unittest

from roadheld.books import book_down, counts
from roadheld.costs import cheap_book
from roadheld.drops import down
from roadheld.errors import BadBegin, BadLayers, BadMany, BadMoment, BadRules, BadWay
from roadheld.packing import packed
from roadheld.runs import laid_by, offs
from roadheld.ways import highest, is_way, layers_at, moves_of, number_of, way_offs
from tests import plain
from tests.samples import AGENTS, Odd, deep, listed, things, tupled, w1, w2, w3
from tests.test_packing import all_attacks, unrolled
from tests.test_runs import OTHERS, ROW

LETTERS = [w1, w2]
NINE = [([("word", k)], [("word", k + 1), ("word", k + 1)], None) for k in range(9)] + [([("word", 9)], [], None)]
WAY = book_down(NINE, [("word", 0)])
# Layers of which each makes two of the next kind: so there are as many moves as 2 ** 181 less one.
LONG = [("label", name) for name in [one + other for one in "abcdefgh" for other in "abcdefghijklmnopqrstuvwxyz"]][:181]
DOUBLING = [([one], [other, other], None) for one, other in zip(LONG, LONG[1:])] + [([LONG[-1]], [], None)]


class TestExample(unittest.TestCase):
    def test_nine(self):
        self.assertEqual(number_of(NINE, [("word", 0)], WAY), 1023)
        self.assertEqual(moves_of(NINE, [("word", 0)], WAY, 510, 4), [9, 9, 1, 2])
        self.assertEqual(layers_at(NINE, [("word", 0)], WAY, 512), [("word", 1)])
        self.assertEqual(highest(NINE, [("word", 0)], WAY), (10, 9))
        self.assertEqual(way_offs(NINE, [("word", 0)], WAY), [1])


class TestUnrolled(unittest.TestCase):
    def check(self, chance, rules, layers, way):
        """Holds all that is told of a way against its run, which is short."""
        moves = [move for row in way[1] for move in unrolled(way[0], row)]
        laid = laid_by(rules, layers, moves)
        self.assertEqual(laid[-1], [])
        self.assertIs(is_way(rules, layers, way), True)
        self.assertEqual(number_of(rules, layers, way), len(moves))
        for moment in range(len(moves) + 1):
            self.assertEqual(layers_at(rules, layers, way, moment), laid[moment])
            many = chance.randint(0, len(moves) + 2)
            self.assertEqual(moves_of(rules, layers, way, moment, many), moves[moment:moment + many])
        self.assertEqual(moves_of(rules, layers, way, len(moves) + 5, 3), [])
        heights = [len(row) for row in laid]
        self.assertEqual(highest(rules, layers, way), (max(heights), heights.index(max(heights))))
        self.assertEqual(way_offs(rules, layers, way), offs(rules, layers, moves))

    def test_packed_attacks(self):
        many = 0
        for chance in plain.chances(300):
            rules = plain.random_rules(chance, LETTERS, chance.randint(1, 4), (0, 2), (0, 2)) + [([w1], [], 8)]
            layers = plain.random_layers(chance, LETTERS, 0, 3)
            for moves in all_attacks(rules, layers, 5, 4)[:12]:
                self.check(chance, rules, layers, packed(rules, layers, moves))
                many += 1
        self.assertGreater(many, 200)

    def test_deep_controls(self):
        many = 0
        for chance in plain.chances(600):
            rules = plain.random_rules(chance, LETTERS, chance.randint(2, 5), (2, 4), (0, 3)) + [([], [w1], 8), ([], [w2, w1], 9)]
            layers = plain.random_layers(chance, LETTERS, 1, 4)
            for moves in all_attacks(rules, layers, 6, 5)[:12]:
                self.check(chance, rules, layers, packed(rules, layers, moves))
                many += 1
        self.assertGreater(many, 60)

    def test_told_ways(self):
        many = 0
        for chance in plain.chances(300):
            rules = plain.random_rules(chance, [w1, w2, w3], 6, (0, 3), (0, 3))
            layers = plain.random_layers(chance, [w1, w2, w3], 0, 4)
            for way in (book_down(rules, layers), cheap_book(rules, list(range(0, 6, 2)), layers)):
                if way is not None and number_of(rules, layers, way) < 200:
                    self.check(chance, rules, layers, way)
                    many += 1
            if book_down(rules, layers) is not None:
                self.assertEqual(number_of(rules, layers, book_down(rules, layers)), down(rules, layers))
        self.assertGreater(many, 100)

    def test_rows_of_no_use(self):
        book, used = book_down(OTHERS, ROW)
        more = book + [row for row in book if row not in used] + [(((), w1, ((w1,))), None, [])]
        self.check(random.Random(0), OTHERS, ROW, (more, used))


class TestIsWay(unittest.TestCase):
    def test_bent(self):
        right = 0
        for rules, layers in ((OTHERS, ROW), (NINE[5:], [("word", 8), ("word", 9)])):
            way = book_down(rules, layers)
            for thing in plain.bent(way, [0, 1, 2, None, True, w1, w2, ()]):
                try:
                    book, used = thing
                    due = plain.is_book(rules, book) and all(isinstance(index, int) and not isinstance(index, bool) and 0 <= index < len(book)
                                                             for index in used) and plain.is_way_through(book, used, layers, ())
                    due = due and isinstance(used, (list, tuple)) and "True" not in repr(thing)
                except (TypeError, ValueError):
                    due = False
                self.assertIs(is_way(rules, layers, thing), due, thing)
                right += due
                if not due:
                    for call in (number_of, highest, way_offs, lambda *told: moves_of(*told, None, None), lambda *told: layers_at(*told, None)):
                        with self.assertRaises(BadWay) as caught:
                            call(rules, layers, thing)
                        self.assertIs(caught.exception.way, thing)
        self.assertGreater(right, 3)

    def test_any_object(self):
        for thing in things() + [deep(), (deep(), []), ([], deep()), ([], [0]), ([], []), (WAY[0],), (WAY[0], WAY[1], 0), [WAY]]:
            self.assertIs(is_way(NINE, [("word", 0)], thing), False)
            with self.assertRaises(BadWay):
                number_of(NINE, [("word", 0)], thing)
            with self.assertRaises(BadRules):
                is_way([thing], thing, thing)
            with self.assertRaises(BadLayers):
                is_way(NINE, [thing], thing)
        self.assertIs(is_way(NINE, [], ([], [])), True)
        self.assertEqual((number_of(NINE, [], ([], ())), highest([], [], ((), ())), way_offs([], [], ([], []))), (0, (0, 0), []))
        self.assertEqual((moves_of([], [], ([], []), 0, 5), layers_at([], [], ([], []), 0)), ([], []))

    def test_numbers(self):
        for thing in [-1, True, None, "0", 0.0, [0], Odd(), -(10 ** 300)]:
            with self.assertRaises(BadBegin) as caught:
                moves_of(NINE, [("word", 0)], WAY, thing, thing)
            self.assertIs(caught.exception.begin, thing)
            with self.assertRaises(BadMany) as caught:
                moves_of(NINE, [("word", 0)], WAY, 0, thing)
            self.assertIs(caught.exception.many, thing)
            with self.assertRaises(BadMoment) as caught:
                layers_at(NINE, [("word", 0)], WAY, thing)
            self.assertIs(caught.exception.moment, thing)
        with self.assertRaises(BadMoment):
            layers_at(NINE, [("word", 0)], WAY, 1024)
        self.assertEqual(layers_at(NINE, [("word", 0)], WAY, 1023), [])
        self.assertEqual(moves_of(NINE, [("word", 0)], WAY, 10 ** 300, 5), [])
        self.assertEqual(moves_of(NINE, [("word", 0)], WAY, 1022, 5), [9])
        self.assertEqual(moves_of(NINE, [("word", 0)], WAY, 5, 0), [])

    def test_lists_for_tuples(self):
        for kind in (listed, tupled):
            rules, layers, way = kind(NINE), kind([("word", 0)]), kind(WAY)
            self.assertIs(is_way(rules=rules, layers=layers, thing=way), True)
            self.assertEqual(number_of(rules=rules, layers=layers, way=way), 1023)
            self.assertEqual(moves_of(rules=rules, layers=layers, way=way, begin=510, many=4), [9, 9, 1, 2])
            self.assertEqual(layers_at(rules=rules, layers=layers, way=way, moment=512), [("word", 1)])
            self.assertEqual(highest(rules=rules, layers=layers, way=way), (10, 9))
            self.assertEqual(way_offs(rules=rules, layers=layers, way=way), [1])
        layers_at(NINE, [("word", 0)], WAY, 512).clear()
        layers_at(NINE, [("word", 0)], WAY, 0).clear()
        self.assertEqual(layers_at(NINE, [("word", 0)], WAY, 0), [("word", 0)])


class TestLong(unittest.TestCase):
    def test_doubling(self):
        begin = time.time()
        layers = [LONG[0], LONG[3]]
        way = book_down(DOUBLING, layers)
        first, second = 2 ** 181 - 1, 2 ** 178 - 1
        self.assertEqual(number_of(DOUBLING, layers, way), first + second)
        self.assertEqual(way_offs(DOUBLING, layers, way), [1, first + 1])
        self.assertEqual(highest(DOUBLING, layers, way), (182, 180))
        # Behind the first move there are two alike; the first of them has half of all moves that are left.
        half = (first - 1) // 2
        self.assertEqual(layers_at(DOUBLING, layers, way, 1 + half), [LONG[1], LONG[3]])
        self.assertEqual(moves_of(DOUBLING, layers, way, 1 + half, 181), list(range(1, 181)) + [180])
        self.assertEqual(moves_of(DOUBLING, layers, way, first, 200)[:4], [3, 4, 5, 6])
        self.assertEqual(moves_of(DOUBLING, layers, way, first + second - 2, 200), [180, 180])
        self.assertEqual(layers_at(DOUBLING, layers, way, first + second - 1), [LONG[-1]])
        chance = random.Random(5)
        for _ in range(40):
            moment = chance.randrange(first + second - 3)
            move = moves_of(DOUBLING, layers, way, moment, 1)[0]
            before, behind = [layers_at(DOUBLING, layers, way, at) for at in (moment, moment + 1)]
            takes, puts, _ = DOUBLING[move]
            self.assertEqual(before[:1], takes)
            self.assertEqual(behind, puts + before[1:])
        self.assertLess(time.time() - begin, 10)

    def test_great_books(self):
        begin = time.time()
        letters = [("cipher", agent) for agent in AGENTS] + [("word", at) for at in range(10)]
        told = 0
        for seed in range(6):
            chance = random.Random(seed)
            rules = plain.random_rules(chance, letters, 300, (1, 4), (0, 4))
            layers = plain.random_layers(chance, letters, 30, 35)
            way = book_down(rules, layers)
            if way is None:
                continue
            told += 1
            number = number_of(rules, layers, way)
            self.assertEqual(number, sum(counts(way[0])[row] for row in way[1]))
            moves = moves_of(rules, layers, way, 0, number)
            laid = laid_by(rules, layers, moves)
            self.assertEqual(way_offs(rules, layers, way), offs(rules, layers, moves))
            self.assertEqual(highest(rules, layers, way)[0], max(len(row) for row in laid))
        self.assertGreater(told, 0)
        self.assertLess(time.time() - begin, 20)


if __name__ == "__main__":
    unittest.main()

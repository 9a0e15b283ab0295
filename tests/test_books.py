"""Books: [8.3], [8.4], and what [8.6] says of them."""

import random
import time
import unittest

from roadheld.books import book_down, book_of, counts, is_book
from roadheld.drops import all_drops, down
from roadheld.errors import BadBook, BadDrop
from roadheld.rules import rules_of
from tests import plain
from tests.samples import AGENTS, P, WEAK_RULES, deep, listed, things, tight, w1, w2, w3, words_up_to

DOUBLING = [([w1], [w2, w2], 0), ([w2], [w3, w3], 0), ([w3], [], 0)]
BOOK = [(((), w3, ()), 2, []), (((), w2, ()), 1, [0, 0]), (((), w1, ()), 0, [1, 1])]
LETTERS = [w1, w2, w3]


def random_rules(chance):
    return plain.random_rules(chance, LETTERS[:chance.randint(1, 3)], chance.randint(1, 6), (0, 3), (0, 3))


def used_later(book, used):
    """The indexes of rows that are used by later ones, or by used."""
    return set(used) | {index for _, _, row in book for index in row}


class TestExample(unittest.TestCase):
    def test_doubling(self):
        self.assertEqual(book_of(DOUBLING, ((), w1, ())), BOOK)
        self.assertEqual(counts(BOOK), [1, 3, 7])
        self.assertIs(is_book(DOUBLING, BOOK), True)
        book, used = book_down(DOUBLING, [w1, w2])
        self.assertEqual(sum(counts(book)[index] for index in used), 10)
        row = book_of(DOUBLING, ((), w1, ()))[0]
        self.assertEqual([part.__class__ for part in (row, row[0], row[0][0], row[0][1], row[2])],
                         [tuple, tuple, tuple, tuple, list])
        self.assertIsInstance(book_down(DOUBLING, []), tuple)

    def test_posts(self):
        book, used = book_down(WEAK_RULES, [("cipher", "bob")])
        self.assertEqual(sum(counts(book)[index] for index in used), 2)
        self.assertIsNone(book_down(rules_of(P, [tight]), [("cipher", "bob"), ("label", "ann")]))
        self.assertEqual(len(all_drops(WEAK_RULES)), 19)
        for drop, number in all_drops(WEAK_RULES):
            self.assertEqual(counts(book_of(WEAK_RULES, drop))[-1], number)


class TestIsBook(unittest.TestCase):
    def test_edges(self):
        self.assertIs(is_book([], []), True)
        self.assertIs(is_book([], ()), True)
        self.assertIs(is_book([([w1], [], 0)], [(((), w1, ()), 0, [])]), True)
        self.assertIs(is_book([([w1], [], 0)], [[[[], ["word", 1], []], 0, ()]]), True)
        self.assertIs(is_book([([w1], [], 0)], [(((), w1, (w1,)), None, [])]), False)
        self.assertIs(is_book([([w1, w2], [], 0)], [(((), w1, (w1,)), None, [])]), True)
        self.assertIs(is_book([([w1, w2], [], 0)], [(((w1,), w2, (w1, w2)), None, [])]), False)
        self.assertIs(is_book([([w1, w2], [], 0)], [(((w1,), w2, ()), 0, [])]), True)
        self.assertIs(is_book([([w1, w2], [], 0)], [(((), w2, ()), 0, [])]), False)

    def test_what_is_read_may_stand_there_by_a_rule(self):
        rules = [([w1], [w1], 0), ([w1, w2], [], 0)]
        read = (((), w1, (w1,)), None, [])
        self.assertIs(is_book(rules, [read, (((), w1, (w1,)), 0, [0])]), True)
        self.assertEqual(counts([read, (((), w1, (w1,)), 0, [0]), (((), w1, (w1,)), 0, [1])]), [0, 1, 2])

    def test_rules_that_take_nothing(self):
        rules = [([], [w1], 0), ([w1, w2], [], 0), ([w3], [w2], 1)]
        rows = [(((), w1, (w1,)), None, []), (((w1,), w2, ()), 1, []), (((), w2, ()), 0, [0, 1]), (((), w3, ()), 2, [2])]
        self.assertIs(is_book(rules, rows), True)
        self.assertEqual(counts(rows), [0, 1, 2, 3])
        self.assertIs(is_book(rules, rows[:2] + [(((), w2, ()), 0, [1])]), False)
        self.assertIs(is_book(rules, rows[:2] + [(((w1,), w2, ()), 0, [0, 1])]), False)
        self.assertIs(is_book([([], [], 0)], [(((), w1, ()), 0, [])]), False)
        self.assertIs(is_book([([], [], 0), ([w1], [], 0)], [(((), w1, ()), 1, []), (((), w1, ()), 0, [0])]), True)

    def test_bent_at_any_place(self):
        others = [0, 1, 2, -1, w1, (), None, True, 10 ** 30, "word"]
        kinds = {True: 0, False: 0}
        for chance in plain.chances(60):
            rules = random_rules(chance)
            for drop, _ in all_drops(rules)[:6]:
                book = book_of(rules, drop)
                self.assertIs(is_book(rules, listed(book)), True)
                for row in list(plain.bent(book, others))[::3]:
                    told = is_book(rules, row)
                    self.assertIs(told, is_right(rules, row))
                    kinds[told] += 1
        self.assertGreater(min(kinds.values()), 100)

    def test_any_object(self):
        for thing in things():
            self.assertIs(is_book(DOUBLING, thing), False)
            self.assertIs(is_book(DOUBLING, [thing]), False)
            self.assertIs(is_book(DOUBLING, BOOK + [thing]), False)
            for at in range(3):
                row = list(BOOK[0])
                row[at] = thing
                self.assertIs(is_book(DOUBLING, [row]), False)
                drop = list(BOOK[0][0])
                drop[at] = thing
                self.assertIs(is_book(DOUBLING, [(drop, 2, [])]), False)
            self.assertIs(is_book(DOUBLING, BOOK[:1] + [(((), w2, ()), 1, [0, thing])]), False)


def is_layer(thing):
    return isinstance(thing, (list, tuple)) and len(thing) == 2 and tuple(thing) in LETTERS and thing[1] is not True


def is_index(thing):
    return isinstance(thing, int) and not isinstance(thing, bool) and thing >= 0


def has_form(book):
    """Whether something nested is a book by its form, of LETTERS."""
    if not isinstance(book, (list, tuple)):
        return False
    for at, row in enumerate(book):
        if not isinstance(row, (list, tuple)) or len(row) != 3 or not isinstance(row[2], (list, tuple)):
            return False
        drop, rule, used = row
        if not isinstance(drop, (list, tuple)) or len(drop) != 3:
            return False
        if not all(isinstance(part, (list, tuple)) and all(map(is_layer, part)) for part in (drop[0], drop[2])):
            return False
        if not is_layer(drop[1]) or not (rule is None or is_index(rule)):
            return False
        if not all(is_index(index) and index < at for index in used):
            return False
    return True


def is_right(rules, book):
    return has_form(book) and plain.is_book(rules, book)


class TestCounts(unittest.TestCase):
    def test_of_any_rules(self):
        other = ("label", "zoe")
        self.assertEqual(counts([]), [])
        self.assertEqual(counts([(((other,), w1, ()), 10 ** 40, []), (((), w1, ()), None, [0]), (((), w1, ()), 5, [0, 0, 1])]),
                         [1, 0, 3])

    def test_great(self):
        book = [(((), w1, ()), 0, [])] + [(((), w1, ()), 0, [at, at]) for at in range(299)]
        self.assertEqual(counts(book)[-1], 2 ** 300 - 1)
        book = [(((), w1, ()), 0, [])] + [(((), w1, ()), 0, [at] * 2000) for at in range(299)]
        self.assertEqual(counts(book)[-1], sum(2000 ** at for at in range(300)))

    def test_refused(self):
        for wrong in ([(((), w1, ()), 0, [0])], [(((), w1, ()), -1, [])], [(((), w1, ()), True, [])], [(((), w1), 0, [])],
                      [(((), w1, ()), 0)], [(((), w1, ()), 0, [], [])], [(((), ("word", 10), ()), 0, [])], [BOOK], BOOK[1:],
                      [(((), w1, ()), None, [False])] * 2, [(((), w1, ()), "0", [])], [((None, w1, ()), 0, [])], BOOK[0]):
            with self.assertRaises(BadBook) as caught:
                counts(wrong)
            self.assertIs(caught.exception.book, wrong)


class TestLeastBooks(unittest.TestCase):
    def test_each_drop(self):
        for chance in plain.chances(400):
            rules = random_rules(chance)
            numbers = plain.drops_by_trying(rules)
            for drop, number in numbers.items():
                book = book_of(rules, drop)
                self.assertTrue(plain.is_book(rules, book))
                self.assertTrue(is_book(rules, book))
                self.assertEqual(counts(book), [numbers[row[0]] for row in book])
                self.assertEqual(book[-1][0], drop)
                self.assertEqual(len({row[0] for row in book}), len(book))
                self.assertEqual(used_later(book, [len(book) - 1]), set(range(len(book))))
                self.assertEqual(counts(book)[-1], number)

    def test_no_such_drop(self):
        for chance in plain.chances(60):
            rules = random_rules(chance)
            numbers = plain.drops_by_trying(rules)
            controls = plain.beginnings(rules) | {(w1, w1, w1)}
            for drop in [(c, a, q) for c in controls for a in LETTERS for q in controls]:
                self.assertEqual(book_of(rules, drop) is not None, drop in numbers)
        self.assertIsNone(book_of([], ((), w1, ())))
        self.assertIsNone(book_of(DOUBLING, ((), ("label", "zoe"), ())))
        self.assertIsNone(book_of(DOUBLING, ((), w1, (("label", "zoe"),))))
        self.assertIsNone(book_of(DOUBLING, [[["label", "zoe"]], w1, []]))

    def test_down(self):
        for chance in plain.chances(60):
            rules = random_rules(chance)
            for layers in words_up_to(LETTERS, 3):
                number = down(rules, layers)
                told = book_down(rules, layers)
                if number is None:
                    self.assertIsNone(told)
                    continue
                book, used = told
                self.assertTrue(is_book(rules, book))
                self.assertTrue(plain.is_way_through(book, used, layers, ()))
                self.assertEqual(sum(counts(book)[index] for index in used), number)
                self.assertEqual(counts(book), [counts(book_of(rules, row[0]))[-1] for row in book])
                self.assertEqual(len({row[0] for row in book}), len(book))
                self.assertEqual(used_later(book, used), set(range(len(book))))
        self.assertEqual(book_down(DOUBLING, []), ([], []))
        self.assertEqual(book_down([], []), ([], []))
        self.assertIsNone(book_down([], [w1]))

    def test_refused(self):
        for wrong in [((), w1), ((), w1, (), ()), (None, w1, ()), ((), ("word", 10), ()), ((), w1, w1), (w1, w1, ()), [w1]] + things():
            with self.assertRaises(BadDrop) as caught:
                book_of(DOUBLING, wrong)
            self.assertIs(caught.exception.drop, wrong)

    def test_nested_deep(self):
        self.assertIs(is_book(DOUBLING, deep()), False)
        self.assertIs(is_book(DOUBLING, [(((), w1, ()), 0, deep())]), False)
        with self.assertRaises(BadDrop):
            book_of(DOUBLING, ((), deep(), ()))


class TestLimits(unittest.TestCase):
    def test_twenty_rows_count_a_million(self):
        letters = [("word", at) for at in range(10)] + [("cipher", agent) for agent in AGENTS[:10]]
        rules = [([here], [further] * 2, 0) for here, further in zip(letters, letters[1:])] + [([letters[-1]], [], 0)]
        book, used = book_down(rules, letters[:1])
        self.assertEqual((len(book), used, counts(book)[-1]), (20, [19], 2 ** 20 - 1))

    def test_three_hundred_rules(self):
        letters = [("word", number) for number in range(10)]
        letters += [(kind, agent) for kind in ("cipher", "label", "seal") for agent in AGENTS[:9]][:25]
        begin = time.time()
        for seed, many, takes in ((0, 35, (1, 2)), (1, 10, (1, 3)), (2, 35, (0, 3)), (3, 3, (1, 6))):
            chance = random.Random(seed)
            rules = plain.random_rules(chance, letters[:many], 300, takes, (0, 6))
            told = all_drops(rules)
            for drop, number in told[::len(told) // 3]:
                book = book_of(rules, drop)
                self.assertEqual(counts(book)[-1], number)
                self.assertTrue(is_book(rules, book))
        self.assertLess(time.time() - begin, 60)

    def test_great_counts(self):
        steps = [("label", agent) for agent in AGENTS] + [("word", number) for number in range(10)]
        marks = [("cipher", agent) for agent in AGENTS[:11]]
        places = [(step, mark) for step in steps for mark in marks][:280]
        rules = [(list(here), list(further) * 3, None) for here, further in zip(places, places[1:])]
        rules.append((list(places[-1]), [], None))
        begin = time.time()
        book, used = book_down(rules, list(places[0]) * 2)
        self.assertTrue(is_book(rules, book))
        self.assertEqual(sum(counts(book)[index] for index in used), 2 * sum(3 ** at for at in range(280)))
        self.assertLess(time.time() - begin, 20)


if __name__ == "__main__":
    unittest.main()

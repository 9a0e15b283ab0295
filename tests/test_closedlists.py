"""Closed lists: [8.5], and what [8.6] says of them."""

import random
import time
import unittest

from roadheld.books import book_of, counts, is_book
from roadheld.closedlists import is_closed, lacking, shown
from roadheld.drops import all_drops
from roadheld.errors import BadDrop, BadDrops, BadRules
from roadheld.rules import rules_of
from tests import plain
from tests.calls import NO_DROPS
from tests.samples import AGENTS, P, WEAK_RULES, deep, listed, things, tight, tupled, w1, w2, w3
from tests.test_books import DOUBLING, random_rules

LETTERS = [w1, w2, w3]


def through(drops, control, layers):
    """The controls to which drops go through layers."""
    reached = {control}
    for layer in layers:
        reached = {q for c, a, q in drops if c in reached and a == layer}
    return reached


def due(rules, drops):
    """All drops that have to be in a closed list by what is in it, as [8.5] says."""
    known = plain.beginnings(rules)
    found = {(c[:-1], c[-1], c) for c in known if c}
    for takes, puts, _ in rules:
        if takes:
            found |= {(tuple(takes[:-1]), takes[-1], q) for q in through(drops, (), puts)}
        else:
            for a in {drop[1] for drop in drops}:
                found |= {((), a, q) for q in through(drops, (), list(puts) + [a])}
    return found


def lacking_by_trying(rules, drops):
    missing = due(rules, drops) - set(drops)
    return min(missing) if missing else None


class TestExample(unittest.TestCase):
    def test_doubling(self):
        drops = [drop for drop, _ in all_drops(DOUBLING)]
        self.assertEqual(lacking(DOUBLING, drops[:2]), ((), w3, ()))
        self.assertIsNone(lacking(DOUBLING, drops))
        self.assertIs(is_closed(DOUBLING, drops), True)
        self.assertIs(is_closed(DOUBLING, drops[:2]), False)
        told = lacking(DOUBLING, drops[:2])
        self.assertEqual([part.__class__ for part in (told, told[0], told[1], told[2])], [tuple] * 4)
        self.assertEqual(shown(DOUBLING, ((), w1, ())), ("book", book_of(DOUBLING, ((), w1, ()))))
        self.assertEqual(shown(DOUBLING, ((), ("word", 5), ())), ("closed", drops))

    def test_posts(self):
        kind, drops = shown(WEAK_RULES, ((), ("cipher", "bob"), (w1,)))
        self.assertEqual((kind, len(drops)), ("closed", 19))
        labelled = rules_of(P, [tight])
        kind, drops = shown(labelled, ((), ("cipher", "bob"), ()))
        self.assertEqual((kind, len(drops)), ("closed", 31))
        self.assertIsNone(lacking(labelled, drops))


class TestLacking(unittest.TestCase):
    def test_edges(self):
        self.assertIsNone(lacking([], []))
        self.assertIsNone(lacking([], [((), w1, (w1, w2)), ((w3,), ("label", "zoe"), ())]))
        self.assertEqual(lacking([([w1], [], 0)], []), ((), w1, ()))
        self.assertEqual(lacking([([w1, w2], [], 0)], []), ((), w1, (w1,)))
        self.assertEqual(lacking([([w1, w2], [], 0)], [((), w1, (w1,))]), ((w1,), w2, ()))
        self.assertEqual(lacking([([w1], [w2], 0)], [((), w2, (w3, w3))]), ((), w1, (w3, w3)))
        self.assertIsNone(lacking([([w1], [w2], 0)], [((w1,), w2, ())]))
        self.assertIsNone(lacking([([], [], 0)], [((), w2, ()), ((w1,), w3, ())]))
        self.assertEqual(lacking([([], [w2], 0)], [((), w2, (w1,)), ((w1,), w3, ())]), ((), w3, ()))
        self.assertEqual(lacking([([], [w2], 0)], [[[], ["word", 2], [["word", 1]]], (((["word", 1],), w3, ()))]), ((), w3, ()))
        self.assertIsNone(lacking([([w1], [], 0)], [((), w1, ())] * 3))

    def test_by_trying(self):
        seen = {True: 0, False: 0}
        for chance in plain.chances(500):
            rules = random_rules(chance)
            told = [drop for drop, _ in all_drops(rules)]
            self.assertIsNone(lacking(rules, told))
            self.assertIs(is_closed(rules, tupled(told)), True)
            some = [drop for drop in told if chance.random() < 0.8]
            odd = [(tuple(plain.random_layers(chance, LETTERS, 0, 2)), chance.choice(LETTERS),
                    tuple(plain.random_layers(chance, LETTERS, 0, 2))) for _ in range(chance.randint(0, 3))]
            for drops in (some, told + odd, some + odd, odd, some[::-1] + some):
                least = lacking(rules, drops)
                self.assertEqual(least, lacking_by_trying(rules, drops))
                self.assertEqual(lacking(rules, listed(drops)), least)
                self.assertIs(is_closed(rules, drops), least is None)
                seen[least is None] += 1
        self.assertGreater(min(seen.values()), 300)

    def test_refused(self):
        for wrong in [[drop] for drop in NO_DROPS] + [((), w1, ()), "abc", {0: 1}, [((), w1, ()), None]] + things():
            self.assertIs(is_closed(DOUBLING, wrong), False)
            with self.assertRaises(BadDrops) as caught:
                lacking(DOUBLING, wrong)
            self.assertIs(caught.exception.drops, wrong)
            with self.assertRaises(BadRules):
                lacking([None], wrong)
        for wrong in NO_DROPS + things():
            with self.assertRaises(BadDrop) as caught:
                shown(DOUBLING, wrong)
            self.assertIs(caught.exception.drop, wrong)
        self.assertIs(is_closed(DOUBLING, [((), deep(), ())]), False)


class TestJustOne(unittest.TestCase):
    def test_a_book_or_a_closed_list(self):
        words = {"book": 0, "closed": 0}
        for chance in plain.chances(150):
            rules = random_rules(chance)
            numbers = plain.drops_by_trying(rules)
            controls = sorted(plain.beginnings(rules) | {(w3, w3, w3, w3)})
            for _ in range(6):
                drop = (chance.choice(controls), chance.choice(LETTERS), chance.choice(controls))
                word, told = shown(rules, drop)
                words[word] += 1
                self.assertEqual(word, "book" if drop in numbers else "closed")
                if word == "book":
                    self.assertTrue(is_book(rules, told))
                    self.assertEqual((told[-1][0], counts(told)[-1]), (drop, numbers[drop]))
                else:
                    self.assertTrue(is_closed(rules, told))
                    self.assertEqual(told, sorted(numbers))
                    self.assertNotIn(drop, told)
        self.assertGreater(min(words.values()), 50)

    def test_each_closed_list_holds_what_has_a_book(self):
        for chance in plain.chances(100):
            rules = random_rules(chance)
            told = {drop for drop, _ in all_drops(rules)}
            some = [drop for drop in told if chance.random() < 0.9]
            if set(some) != told:
                self.assertFalse(is_closed(rules, some))


class TestLimits(unittest.TestCase):
    def test_ten_thousand_drops(self):
        letters = [("word", number) for number in range(10)]
        letters += [(kind, agent) for kind in ("cipher", "label", "seal") for agent in AGENTS[:9]][:25]
        begin = time.time()
        for seed, many, takes in ((0, 35, (1, 2)), (1, 10, (1, 3)), (2, 35, (0, 3)), (3, 3, (1, 6))):
            chance = random.Random(seed)
            rules = plain.random_rules(chance, letters[:many], 300, takes, (0, 6))
            told = [drop for drop, _ in all_drops(rules)]
            self.assertIsNone(lacking(rules, told))
            self.assertFalse(is_closed(rules, told[1:]) and is_closed(rules, told[:-1]))
            self.assertEqual(shown(rules, ((), ("label", "zoe"), ())), ("closed", told))
        self.assertLess(time.time() - begin, 60)


if __name__ == "__main__":
    unittest.main()

"""Costs: [18.1], [18.2], and what [18.7] says of them."""

import random
import time
import unittest

from roadheld.books import counts, is_book
from roadheld.costs import cheap_book, cost, costs
from roadheld.drops import down
from roadheld.errors import BadBook, BadLayers, BadRules
from roadheld.refusals import BadCounted
from roadheld.rules import rules_of
from tests import plain
from tests.calls import NO_BOOKS
from tests.samples import AGENTS, P, strong, things, w1, w2, w3, words_up_to
from tests.test_books import DOUBLING, random_rules

LETTERS = [w1, w2, w3]
STRONG = rules_of(P, [strong])
LONG = [("cipher", "bob"), ("label", "ann"), ("cipher", "bob")]


def answers_of(agents):
    return [at for at, rule in enumerate(STRONG) if rule[2][0] == "answer" and rule[2][2] in agents]


def plus(*pairs):
    return (sum(pair[0] for pair in pairs), sum(pair[1] for pair in pairs))


def ways(pairs, control, layers):
    """The least sums of pairs of drops through layers, by the controls at which they end."""
    reached = {control: (0, 0)}
    for layer in layers:
        further = {}
        for (c, a, q), pair in pairs.items():
            if c in reached and a == layer:
                further[q] = min(further.get(q, plus(reached[c], pair)), plus(reached[c], pair))
        reached = further
    return reached


def pairs_by_trying(rules, counted):
    """The pairs of cost and deeds of all drops, as [18.1] says."""
    known = plain.beginnings(rules)
    letters = {layer for takes, _, _ in rules for layer in takes}
    pairs = {}
    while True:
        found = {(c, a, c + (a,)): (0, 0) for c in known for a in letters if c + (a,) in known}
        for at, (takes, puts, _) in enumerate(rules):
            own = (1 if at in counted else 0, 1)
            heads = [(tuple(takes[:-1]), takes[-1], list(puts))] if takes else [((), a, list(puts) + [a]) for a in letters]
            for c, a, row in heads:
                for q, pair in ways(pairs, (), row).items():
                    found[(c, a, q)] = min(found.get((c, a, q), plus(own, pair)), plus(own, pair))
        if found == pairs:
            return pairs
        pairs = found


class TestExample(unittest.TestCase):
    def test_strong(self):
        self.assertEqual(answers_of(["bob"]), [36, 37])
        self.assertEqual(cost(STRONG, [36, 37], LONG), (1, 14))
        self.assertEqual(cost(STRONG, answers_of(["ann"]), LONG), (0, 13))
        self.assertEqual(cost(STRONG, answers_of(["ann", "bob", "eve"]), LONG), (2, 13))
        book, used = cheap_book(STRONG, [36, 37], LONG)
        self.assertEqual(sum(costs(STRONG, [36, 37], book)[at] for at in used), 1)
        self.assertEqual(sum(counts(book)[at] for at in used), 14)


class TestCosts(unittest.TestCase):
    def test_by_trying(self):
        apart = 0
        for chance in plain.chances(400):
            rules = random_rules(chance) if chance.random() < 0.4 else plain.random_rules(chance, LETTERS, 8, (1, 2), (0, 3))
            counted = chance.sample(range(len(rules)), chance.randint(0, len(rules)))
            pairs = pairs_by_trying(rules, counted)
            for layers in list(words_up_to(LETTERS, 3))[::3]:
                told = cost(rules, counted, layers)
                self.assertEqual(told, ways(pairs, (), layers).get(()))
                apart += told is not None and told[1] != down(rules, layers)
                self.book(rules, counted, layers, told, pairs)
        self.assertGreater(apart, 20)

    def book(self, rules, counted, layers, told, pairs):
        found = cheap_book(rules, tuple(counted), layers)
        if told is None:
            self.assertIsNone(found)
            self.assertIsNone(down(rules, layers))
            return
        book, used = found
        self.assertTrue(is_book(rules, book))
        self.assertTrue(plain.is_way_through(book, used, layers, ()))
        both = list(zip(costs(rules, counted, book), counts(book)))
        self.assertEqual(both, [pairs[row[0]] for row in book])
        self.assertEqual(plus(*[both[at] for at in used]), told)
        self.assertEqual(len({row[0] for row in book}), len(book))
        self.assertEqual(set(used) | {at for row in book for at in row[2]}, set(range(len(book))))

    def test_edges(self):
        self.assertEqual(cost(DOUBLING, [], [w1]), (0, 7))
        self.assertEqual(cost(DOUBLING, [2, 0, 1], [w1, w2]), (10, 10))
        self.assertEqual(cost(DOUBLING, (2,), [w1]), (4, 7))
        self.assertEqual(cost(DOUBLING, [0], []), (0, 0))
        self.assertEqual(cost([], [], []), (0, 0))
        self.assertIsNone(cost([], [], [w1]))
        self.assertIsNone(cost(DOUBLING, [0], [("label", "zoe")]))
        self.assertEqual(cheap_book([], [], []), ([], []))
        self.assertIsNone(cheap_book(DOUBLING, [0], [("label", "zoe")]))
        self.assertEqual(cost([([w1], [w2, w2], 0), ([w1], [], 1), ([w2], [], 2)], [1], [w1]), (0, 3))
        self.assertEqual(cost([([w1], [w2, w2], 0), ([w1], [], 1), ([w2], [], 2)], [1, 2], [w1]), (1, 1))
        self.assertEqual(cost([([], [w2], 0), ([w2, w1], [], 1), ([w1], [], 2)], [2], [w1]), (0, 2))

    def test_costs_of_any_book(self):
        book = [(((), w3, ()), 2, []), (((), w2, ()), 1, [0, 0]), (((), w1, ()), 0, [1, 1])]
        self.assertEqual(costs(DOUBLING, [], book), [0, 0, 0])
        self.assertEqual(costs(DOUBLING, [2], book), [1, 2, 4])
        self.assertEqual(costs(DOUBLING, [0, 2], book), [1, 2, 5])
        self.assertEqual(costs([([w1, w2], [], 0)], [0], [(((), w1, (w1,)), None, []), (((w1,), w2, ()), 0, [])]), [0, 1])
        self.assertEqual(costs([], [], []), [])

    def test_refused(self):
        for wrong in [[3], [-1], [0, 0], [True], [0, None], 0, "0", {0: 1}, [0.0], [[0]], [10 ** 3000]] + things():
            for function, last in ((cost, [w1]), (costs, []), (cheap_book, [w1]), (cost, None)):
                with self.assertRaises(BadCounted) as caught:
                    function(DOUBLING, wrong, last)
                self.assertIs(caught.exception.counted, wrong)
            with self.assertRaises(BadRules):
                cost([None], wrong, None)
        for wrong in NO_BOOKS + things() + [[(((), w3, ()), 3, [])], [(((), w3, ()), 1, [])], [(((), w3, (w3,)), None, [])]]:
            with self.assertRaises(BadBook) as caught:
                costs(DOUBLING, [0], wrong)
            self.assertIs(caught.exception.book, wrong)
        with self.assertRaises(BadLayers):
            cheap_book(DOUBLING, [0], [None])


class TestLimits(unittest.TestCase):
    def test_three_hundred_rules(self):
        letters = [("word", number) for number in range(10)]
        letters += [(kind, agent) for kind in ("cipher", "label", "seal") for agent in AGENTS[:9]][:25]
        begin = time.time()
        for seed, many, takes in ((0, 35, (1, 2)), (1, 10, (1, 3)), (2, 35, (0, 3)), (3, 3, (1, 6))):
            chance = random.Random(seed)
            rules = plain.random_rules(chance, letters[:many], 300, takes, (0, 6))
            counted = chance.sample(range(300), 150)
            layers = plain.random_layers(chance, letters[:many], 12, 12)
            told = cost(rules, counted, layers)
            found = cheap_book(rules, counted, layers)
            self.assertEqual(told is None, found is None)
            if told is not None:
                self.assertEqual(sum(costs(rules, counted, found[0])[at] for at in found[1]), told[0])
                self.assertEqual(sum(counts(found[0])[at] for at in found[1]), told[1])
        self.assertLess(time.time() - begin, 60)

    def test_great_numbers(self):
        steps = [("label", agent) for agent in AGENTS] + [("word", number) for number in range(10)]
        marks = [("cipher", agent) for agent in AGENTS[:11]]
        places = [(step, mark) for step in steps for mark in marks][:280]
        rules = [(list(here), list(further) * 3, None) for here, further in zip(places, places[1:])]
        rules.append((list(places[-1]), [], None))
        begin = time.time()
        deeds = sum(3 ** at for at in range(280))
        self.assertEqual(cost(rules, [279], list(places[0]) * 2), (2 * 3 ** 279, 2 * deeds))
        self.assertEqual(cost(rules, [], list(places[0])), (0, deeds))
        self.assertEqual(cost(rules, [0], list(places[0])), (1, deeds))
        # A way of many free deeds is less than one of a single counted deed.
        dear = rules + [(list(places[0]), [], None)]
        self.assertEqual(cost(dear, [280], list(places[0])), (0, deeds))
        self.assertEqual(cost(dear, [280, 279], list(places[0])), (1, 1))
        book, used = cheap_book(dear, [280], list(places[0]))
        self.assertEqual(counts(book)[used[-1]] + sum(counts(book)[at] for at in used[:-1]), deeds)
        self.assertLess(time.time() - begin, 20)

    def test_numbers_about_as_great_as_the_room_for_them(self):
        letters = [("word", at) for at in range(10)] + [("cipher", agent) for agent in AGENTS]
        for many in range(8, 26):
            rules = [([letters[at]], [letters[at + 1]] * 6, 0) for at in range(many)] + [([letters[many]], [], 1)]
            rules += [([letters[0]], [], 2), ([("label", "ann")], [letters[0]] * 12, 3)]
            deeds = sum(6 ** at for at in range(many + 1))
            self.assertEqual(cost(rules, [many + 1], letters[:1]), (0, deeds))
            self.assertEqual(cost(rules, [many + 1], letters[:1] * 30), (0, 30 * deeds))
            self.assertEqual(cost(rules, [many + 1], [("label", "ann")]), (0, 12 * deeds + 1))
            self.assertEqual(cost(rules, [0, many + 1], letters[:1] * 30), (30, 30))


if __name__ == "__main__":
    unittest.main()

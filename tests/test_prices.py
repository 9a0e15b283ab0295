"""Prices: [18.3], [18.4], and what [18.7] says of them."""

import random
import time
import unittest

from roadheld.books import counts, is_book
from roadheld.costs import cost, costs
from roadheld.drops import all_drops, down
from roadheld.errors import BadLayers, BadMost, BadRules
from roadheld.prices import first_dear, is_price_list, least_sum, within
from roadheld.refusals import BadCounted, BadPrices
from tests import plain
from tests.samples import AGENTS, Alike, Odd, deep, listed, things, tupled, w1, w2, w3
from tests.test_costs import LONG, STRONG, pairs_by_trying

LETTERS = [w1, w2, w3]
SMALL = [([w1], [w2, w2], 0), ([w2], [w3, w3], 0), ([w3], [], 0), ([w2, w1], [], 1)]


def bounds_slowly(rules, counted, prices):
    """For each drop that has to be by a price list the most that it may cost, as [18.3] says."""
    known = plain.beginnings(rules)
    most = {}

    def bound(drop, price):
        most[drop] = min(most.get(drop, price), price)

    for control in known:
        if control:
            most[(control[:-1], control[-1], control)] = 0
    for at, (takes, puts, _) in enumerate(rules):
        weight = 1 if at in counted else 0
        if takes:
            for q, total in plain.through(prices, (), puts).items():
                bound((tuple(takes[:-1]), takes[-1], q), total + weight)
        else:
            for a in {a for _, a, _ in prices}:
                for q, total in plain.through(prices, (), list(puts) + [a]).items():
                    bound(((), a, q), total + weight)
    return most


def dear_slowly(rules, counted, prices):
    most = bounds_slowly(rules, counted, prices)
    wrong = [drop for drop, price in most.items() if drop not in prices or prices[drop] > price]
    return min(wrong) if wrong else None


def random_question(chance, many=5):
    rules = plain.random_rules(chance, LETTERS, chance.randint(1, many), (0, 2), (0, 2))
    return (rules, [at for at in range(len(rules)) if chance.random() < 0.5], plain.random_layers(chance, LETTERS, 0, 3))


class TestExample(unittest.TestCase):
    def test_strong(self):
        self.assertEqual(within(STRONG, [36, 37], LONG, 0)[0], "beyond")
        self.assertEqual(within(STRONG, [36, 37], LONG, 1)[0], "within")
        prices = within(STRONG, [36, 37], LONG, 0)[1]
        self.assertIs(is_price_list(STRONG, [36, 37], prices), True)
        self.assertEqual(least_sum(prices, LONG), 1)


class TestPriceLists(unittest.TestCase):
    def test_by_trying(self):
        seen = set()
        for chance in plain.chances(300):
            rules, counted, _ = random_question(chance)
            prices = {drop: pair[0] for drop, pair in pairs_by_trying(rules, counted).items()}
            for _ in range(4):
                told = [[drop, price] for drop, price in chance.sample(sorted(prices.items()), len(prices))]
                due = dear_slowly(rules, counted, prices)
                self.assertEqual(first_dear(rules, counted, told), due)
                self.assertIs(is_price_list(rules, counted, told), due is None)
                seen.add(due is None)
                if prices:
                    # Bent: a drop away, otherwise, too dear, too cheap.
                    drop = chance.choice(sorted(prices))
                    prices = dict(prices)
                    if chance.random() < 0.4:
                        del prices[drop]
                    else:
                        prices[drop] = max(0, prices[drop] + chance.choice([-1, 1, 2]))
        self.assertEqual(len(seen), 2)

    def test_other_drops(self):
        # Drops that are none may stand there too, of any layers; then others have to be because of them.
        for chance in plain.chances(200):
            rules, counted, _ = random_question(chance)
            prices = {drop: pair[0] for drop, pair in pairs_by_trying(rules, counted).items()}
            controls = sorted(plain.beginnings(rules)) + [(w3, w3, w3)]
            for _ in range(3):
                prices[(chance.choice(controls), chance.choice(LETTERS), chance.choice(controls))] = chance.randint(0, 3)
            self.assertEqual(first_dear(rules, counted, list(prices.items())), dear_slowly(rules, counted, prices))

    def test_by_hand(self):
        self.assertIsNone(first_dear([], [], []))
        self.assertEqual(first_dear(SMALL, [2], []), ((), w2, (w2,)))
        whole = within(SMALL, [2], [w3], 0)[1]
        self.assertEqual({drop for drop, _ in whole}, {drop for drop, _ in all_drops(SMALL)})
        self.assertIs(is_price_list(SMALL, [2], whole), True)
        self.assertIs(is_price_list(SMALL, [], whole), False)
        self.assertIs(is_price_list(SMALL, [2], [(drop, 0) for drop, _ in whole]), True)
        dear = [(drop, price + (drop == ((), w3, ()))) for drop, price in whole]
        self.assertEqual(first_dear(SMALL, [2], dear), ((), w3, ()))

    def test_nothing_is_too_much(self):
        # A list that holds: a drop costs its price at least, one that is not in it never is.
        for chance in plain.chances(200):
            rules, counted, layers = random_question(chance)
            pairs = pairs_by_trying(rules, counted)
            prices = {drop: max(0, pair[0] - chance.randint(0, 1)) for drop, pair in pairs.items()}
            prices[((w1, w1, w1), w2, ())] = 7
            told = list(prices.items())
            if not is_price_list(rules, counted, told):
                continue
            self.assertTrue(all(drop in prices and prices[drop] <= pair[0] for drop, pair in pairs.items()))
            found, least = cost(rules, counted, layers), least_sum(told, layers)
            self.assertTrue(found is None or least is not None and least <= found[0])


class TestLeastSum(unittest.TestCase):
    def test_by_trying(self):
        controls = [(), (w1,), (w2,)]
        for chance in plain.chances(300):
            prices = {(chance.choice(controls), chance.choice(LETTERS[:2]), chance.choice(controls)): chance.randint(0, 4) for _ in range(8)}
            layers = plain.random_layers(chance, LETTERS[:2], 0, 3)
            self.assertEqual(least_sum(list(prices.items()), layers), plain.through(prices, (), layers).get(()))
        self.assertEqual(least_sum([], []), 0)
        self.assertIsNone(least_sum([], [w1]))
        self.assertEqual(least_sum([(((), ("cipher", "zoe"), ()), 10 ** 300)], [("cipher", "zoe")] * 2), 2 * 10 ** 300)


class TestWithin(unittest.TestCase):
    def test_just_one(self):
        seen = set()
        for chance in plain.chances(300):
            rules, counted, layers = random_question(chance)
            found = cost(rules, counted, layers)
            for most in (0, 1, 2, 5):
                told = within(rules, counted, layers, most)
                seen.add((told[0], most))
                if found is not None and found[0] <= most:
                    self.assertEqual(told[0], "within")
                    _, book, used = told
                    self.assertTrue(is_book(rules, book) and plain.is_book(rules, book))
                    self.assertTrue(plain.is_way_through(book, used, layers, ()))
                    price = costs(rules, counted, book)
                    self.assertEqual((sum(price[at] for at in used), sum(counts(book)[at] for at in used)), found)
                else:
                    self.assertEqual((told[0], len(told)), ("beyond", 2))
                    self.assertIs(is_price_list(rules, counted, told[1]), True)
                    self.assertIsNone(dear_slowly(rules, counted, dict(told[1])))
                    least = least_sum(told[1], layers)
                    self.assertTrue(least is None or least > most)
                    self.assertTrue(all(price <= most + 1 for _, price in told[1]))
                self.assertEqual(within(rules, counted, layers, most), told)
        self.assertEqual(len(seen), 8)

    def test_all_or_none_counted(self):
        for chance in plain.chances(100):
            rules, _, layers = random_question(chance)
            least = down(rules, layers)
            every = list(range(len(rules)))
            if least is None:
                self.assertEqual(within(rules, every, layers, 1000)[0], "beyond")
                self.assertEqual(within(rules, [], layers, 0)[0], "beyond")
            elif least:
                self.assertEqual(within(rules, every, layers, least)[0], "within")
                self.assertEqual(within(rules, every, layers, least - 1)[0], "beyond")
                self.assertEqual(within(rules, [], layers, 0)[0], "within")

    def test_great_costs(self):
        rules = [([("word", k)], [("word", k + 1)] * 6, None) for k in range(9)] + [([("word", 9)], [], None)]
        many = 6 ** 9
        self.assertEqual(within(rules, [9], [("word", 0)], many)[0], "within")
        told = within(rules, [9], [("word", 0)], many - 1)
        self.assertEqual((told[0], max(price for _, price in told[1])), ("beyond", many))
        self.assertEqual(least_sum(told[1], [("word", 0)]), many)
        self.assertTrue(max(price for _, price in within(rules, [9], [("word", 0)], 5)[1]) <= 6)


class TestWrong(unittest.TestCase):
    def test_prices(self):
        right = (((), w1, ()), 1)
        wrong = [right, [right, right], [(((), w1, ()), -1)], [(((), w1, ()), True)], [(((), w1, ()),)], [(((), w1, ()), 1, 1)], [((w1, ()), 1)],
                 [(((), ("word", 10), ()), 1)], [right, [[[], list(w1), []], 2]], [(((), w1, ()), 1.0)], {right: 1}, "ab", [(Odd(), 1)], [Alike()],
                 [(((), w1, ()), None)], [deep()]]
        for thing in wrong + things():
            self.assertIs(is_price_list(SMALL, [], thing), False)
            for call in (lambda thing: first_dear(SMALL, [], thing), lambda thing: least_sum(thing, [None])):
                with self.assertRaises(BadPrices) as caught:
                    call(thing)
                self.assertIs(caught.exception.prices, thing)
            with self.assertRaises(BadCounted):
                is_price_list(SMALL, [9], thing)
            with self.assertRaises(BadRules):
                is_price_list([SMALL], [9], thing)

    def test_others(self):
        for thing in things():
            with self.assertRaises(BadCounted) as caught:
                within(SMALL, thing, thing, thing)
            self.assertIs(caught.exception.counted, thing)
            with self.assertRaises(BadLayers):
                within(SMALL, [], [thing], thing)
            with self.assertRaises(BadLayers) as caught:
                least_sum([], thing)
            self.assertIs(caught.exception.layers, thing)
            with self.assertRaises(BadMost) as caught:
                within(SMALL, [], [w1], thing)
            self.assertIs(caught.exception.most, thing)
        for call in (first_dear, is_price_list):
            with self.assertRaises(BadCounted):
                call(SMALL, [0, 0], [])

    def test_lists_for_tuples(self):
        told = within(SMALL, [2], [w1], 3)
        for kind in (listed, tupled):
            self.assertEqual(within(rules=kind(SMALL), counted=kind([2]), layers=kind([w1]), most=3), told)
            self.assertIsNone(first_dear(rules=kind(SMALL), counted=kind([2]), prices=kind(told[1])))
            self.assertIs(is_price_list(rules=kind(SMALL), counted=kind([2]), thing=kind(told[1])), True)
            self.assertEqual(least_sum(prices=kind(told[1]), layers=kind([w1])), 4)
        told[1].clear()
        self.assertEqual(len(within(SMALL, [2], [w1], 3)[1]), len(all_drops(SMALL)))

    def test_limits(self):
        begin = time.time()
        letters = [("cipher", agent) for agent in AGENTS[:6]] + [("word", at) for at in range(10)]
        for seed in range(4):
            chance = random.Random(seed)
            rules = plain.random_rules(chance, letters, 300, (1, 3), (0, 3))
            counted = [at for at in range(300) if chance.random() < 0.7]
            layers = plain.random_layers(chance, letters, 35, 35)
            for most in (0, 5, 1000):
                told = within(rules, counted, layers, most)
                if told[0] == "beyond":
                    self.assertIs(is_price_list(rules, counted, told[1]), True)
                    least = least_sum(told[1], layers)
                    self.assertTrue(least is None or least > most)
        self.assertLess(time.time() - begin, 30)


if __name__ == "__main__":
    unittest.main()

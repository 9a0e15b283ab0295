"""Drops and down: [8.1], [8.2], and what [8.6] says of them."""

import random
import time
import unittest

from roadheld.drops import all_drops, down
from roadheld.protocols import read_protocol
from roadheld.rules import controls, rules_of
from tests.plain import chances, drops_by_trying, nearest, random_layers, random_rules, through
from tests.samples import AGENTS, P, TIGHT, WEAK_RULES, w1, w2, w3, words_up_to

DOUBLING = [([w1], [w2, w2], 0), ([w2], [w3, w3], 0), ([w3], [], 0)]


class TestExample(unittest.TestCase):
    def test_drops(self):
        self.assertEqual(all_drops(DOUBLING), [(((), w1, ()), 7), (((), w2, ()), 3), (((), w3, ()), 1)])
        self.assertEqual(down(DOUBLING, [w1, w2]), 10)
        told = all_drops(DOUBLING)[0]
        self.assertEqual([part.__class__ for part in (told, told[0], told[0][0], told[0][1])], [tuple] * 4)

    def test_posts(self):
        self.assertEqual(len(all_drops(WEAK_RULES)), 19)
        self.assertEqual(down(WEAK_RULES, [("cipher", "bob")]), 2)
        labelled = rules_of(P, [read_protocol(TIGHT)])
        self.assertEqual(len(all_drops(labelled)), 31)
        self.assertIsNone(down(labelled, [("cipher", "bob"), ("label", "ann")]))


class TestDrops(unittest.TestCase):
    def test_edges(self):
        self.assertEqual(all_drops([]), [])
        self.assertEqual(down([], []), 0)
        self.assertIsNone(down([], [w1]))
        self.assertEqual(all_drops([([], [], 0), ([], [w1], 0)]), [])
        self.assertEqual(all_drops([([w1], [w1], 0)]), [])
        self.assertEqual(all_drops([([w1], [w2], 0), ([w1], [], 0)]), [(((), w1, ()), 1)])
        self.assertEqual(all_drops([([w1, w2], [], 0)]), [(((), w1, (w1,)), 0), (((w1,), w2, ()), 1)])
        self.assertEqual(down([([w1, w2], [], 0)], [w1, w2, w1, w2]), 2)
        self.assertIsNone(down([([w1, w2], [], 0)], [w1]))
        self.assertIsNone(down([([w1, w2], [], 0)], [w1, w2, w1]))

    def test_a_layer_held_back_may_be_a_rules_too(self):
        rules = [([w1], [], 0), ([w1, w2], [w1, w1, w1, w1], 0)]
        self.assertEqual(dict(all_drops(rules)), {((), w1, ()): 1, ((), w1, (w1,)): 0, ((w1,), w2, ()): 5,
                                                  ((w1,), w2, (w1,)): 4})
        self.assertEqual(down(rules, [w1, w2]), 5)

    def test_rules_that_take_nothing(self):
        rules = [([], [w1], 0), ([w1, w2], [], 0)]
        self.assertEqual(dict(all_drops(rules)), {((), w1, (w1,)): 0, ((w1,), w2, ()): 1, ((), w2, ()): 2})
        self.assertEqual(down(rules, [w2, w1, w2]), 3)
        self.assertEqual(down([([], [w1, w2], 0), ([w1, w2, w3], [], 0)], [w3, w3]), 4)

    def test_the_least_of_two_rules_that_take_nothing(self):
        a, x, y, z = w1, w2, w3, ("word", 4)
        rules = [([], [x], 0), ([x, a], [z] * 5, 0), ([z], [], 0), ([], [y], 0), ([y], [x], 0)]
        for order in (rules, rules[::-1], rules[3:] + rules[:3]):
            self.assertEqual(dict(all_drops(order))[((), a, ())], 7)
            self.assertEqual(down(order, [a, a]), 14)
            self.assertEqual(all_drops(order), sorted(drops_by_trying(order).items()))

    def test_by_trying_many_rules_that_take_nothing(self):
        letters = [w1, w2, w3]
        for chance in chances(300):
            rules = random_rules(chance, letters, 4, (0, 0), (1, 3)) + random_rules(chance, letters, 5, (1, 3), (0, 5))
            self.assertEqual(all_drops(rules), sorted(drops_by_trying(rules).items()))

    def test_by_trying(self):
        letters = [w1, w2, w3, ("cipher", "ann")]
        for chance in chances(1500):
            rules = random_rules(chance, letters[:chance.randint(1, 4)], chance.randint(1, 6), (0, 3), (0, 3))
            self.assertEqual(all_drops(rules), sorted(drops_by_trying(rules).items()))

    def test_down_by_drops(self):
        letters = [w1, w2, w3]
        for chance in chances(40):
            rules = random_rules(chance, letters, 5, (0, 3), (0, 3))
            numbers = dict(all_drops(rules))
            for layers in words_up_to(letters, 3):
                self.assertEqual(down(rules, layers), through(numbers, (), layers).get(()))

    def test_down_is_the_fewest_moves_to_bare(self):
        letters = [w1, w2]
        seen = 0
        for chance in chances(600):
            rules = random_rules(chance, letters, 4, (0, 2), (0, 2))
            for layers in words_up_to(letters, 2):
                number = down(rules, layers)
                told = nearest(rules, [layers], 6, 6)
                if number is not None and number <= 4:
                    self.assertEqual(told.get(()), number)
                    seen += 1
                elif () in told:
                    self.assertEqual(told[()], number)
                else:
                    self.assertTrue(number is None or number > 4)
        self.assertGreater(seen, 1000)

    def test_what_lies_below_changes_nothing(self):
        letters = [w1, w2]
        for chance in chances(30):
            rules = random_rules(chance, letters, 4, (1, 2), (0, 2))
            for layers in words_up_to(letters, 2):
                number = down(rules, layers)
                if number is not None and number <= 4:
                    told = nearest(rules, [layers + [w3, w3]], number, 9)
                    self.assertLessEqual(told[(w3, w3)], number)


class TestLimits(unittest.TestCase):
    def test_three_hundred_rules(self):
        letters = [("word", number) for number in range(10)]
        letters += [(kind, agent) for kind in ("cipher", "label", "seal") for agent in AGENTS[:9]][:25]
        begin = time.time()
        sizes = []
        for seed in range(2):
            chance = random.Random(seed)
            for many, takes in ((35, (1, 2)), (10, (1, 3)), (35, (0, 3)), (3, (1, 6))):
                rules = random_rules(chance, letters[:many], 300, takes, (0, 6))
                sizes.append((len(controls(rules)), len(all_drops(rules))))
                down(rules, random_layers(chance, letters[:many], 12, 12))
        self.assertGreater(max(many for many, _ in sizes), 120)
        self.assertGreater(max(many for _, many in sizes), 10000)
        self.assertLess(time.time() - begin, 60)

    def test_great_numbers(self):
        letters = [("word", number) for number in range(10)] + [("cipher", agent) for agent in AGENTS]
        rules = [([letters[at]], [letters[at + 1]] * 6, None) for at in range(25)] + [([letters[25]], [], None)]
        number = 0
        for _ in range(26):
            number = 1 + 6 * number
        self.assertEqual(down(rules, [letters[0]]), number)

    def test_numbers_of_a_thousand_figures(self):
        # A counter in controls: a layer held back says how far it has come, each layer beneath doubles it.
        steps = [("label", agent) for agent in AGENTS] + [("word", number) for number in range(10)]
        marks = [("cipher", agent) for agent in AGENTS[:11]]
        rules = []
        places = [(step, mark) for step in steps for mark in marks][:280]
        for (step, mark), (further, other) in zip(places, places[1:]):
            rules.append(([step, mark], [further, other] * 3, None))
        rules.append((list(places[-1]), [], None))
        number = 0
        for _ in places:
            number = 1 + 3 * number
        begin = time.time()
        self.assertEqual(down(rules, list(places[0])), number)
        six = [([steps[at // 11], marks[at % 11]], [steps[(at + 1) // 11], marks[(at + 1) % 11]] * 3, None) for at in range(20)]
        self.assertIsNone(down(six, list(places[0])))
        self.assertGreater(number, 10 ** 130)
        layers = list(places[0]) * 17
        self.assertEqual(down(rules, layers), 17 * number)
        self.assertLess(time.time() - begin, 20)


if __name__ == "__main__":
    unittest.main()

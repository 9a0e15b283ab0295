"""Rules: [7.1], [7.2], [7.3], [7.4], [7.5], [7.6]."""

import itertools
import time
import unittest

from roadheld.agents import Post, may_put, may_take
from roadheld.errors import BadRules
from roadheld.posts import done
from roadheld.protocols import Proto, read_protocol
from roadheld.rules import after, controls, first_messages, rules_of
from tests.samples import AGENTS, G, P, T, TIGHT, WEAK_RULES, tight, weak, words_up_to


class TestFirstMessages(unittest.TestCase):
    def test_example(self):
        self.assertEqual(first_messages(P, [weak], "ann", "bob", 7), [([("cipher", "bob")], 7)])

    def test_protocol_by_protocol(self):
        bare = Proto("bare", [(0, [], [])])
        self.assertEqual(first_messages(P, [G, bare, weak, tight], "eve", "ann", -1),
                         [([("label", "eve"), ("cipher", "ann")], -1), ([], -1), ([("cipher", "ann")], -1),
                          ([("cipher", "ann"), ("label", "eve")], -1)])
        self.assertEqual(first_messages(P, [], "eve", "ann", 0), [])


class TestRules(unittest.TestCase):
    def test_example(self):
        self.assertEqual(len(WEAK_RULES), 40)
        self.assertEqual([rule[2][0] for rule in WEAK_RULES], ["put"] * 17 + ["take"] * 17 + ["answer"] * 6)
        self.assertEqual(WEAK_RULES[34], ([("cipher", "ann")], [("cipher", "bob")], ("answer", "weak", "ann", "bob", 1)))
        self.assertEqual(after(WEAK_RULES, [("cipher", "ann"), ("word", 3)], 34), [("cipher", "bob"), ("word", 3)])
        self.assertEqual(controls(WEAK_RULES), [()])
        self.assertEqual(controls(rules_of(P, [read_protocol(TIGHT)])),
                         [(), (("cipher", "ann"),), (("cipher", "bob"),), (("cipher", "eve"),)])

    def test_all_in_order(self):
        keys = [("cipher", "eve"), ("seal", "eve"), ("seal", "ann"), ("cipher", "bob")]
        post = Post(["eve", "bob", "ann"], keys)
        three = read_protocol("protocol three { 0 takes nothing puts cipher 1 ; 1 takes cipher 1 puts seal 1 ; "
                              "0 takes seal 1 , word 2 puts nothing ; }")
        layers = [(kind, agent) for kind in ("cipher", "label", "seal") for agent in ("ann", "bob", "eve")]
        layers += [("word", number) for number in range(10)]
        due = [([], [layer], ("put", layer)) for layer in layers if may_put(post, layer)]
        due += [([layer], [], ("take", layer)) for layer in layers if may_take(post, layer)]
        for agent, partner in itertools.permutations(("ann", "bob", "eve"), 2):
            due.append(([("cipher", agent)], [("seal", agent)], ("answer", "three", agent, partner, 1)))
            due.append(([("seal", partner), ("word", 2)], [], ("answer", "three", agent, partner, 2)))
        seen, firsts = [], []
        for rule in due:
            if rule[:2] not in seen:
                seen.append(rule[:2])
                firsts.append(rule)
        self.assertLess(len(firsts), len(due))
        self.assertEqual(rules_of(post, [three]), firsts)
        told = rules_of(post, [three])[-1]
        self.assertEqual([part.__class__ for part in told], [list, list, tuple])

    def test_the_first_of_the_same(self):
        again = Proto("again", weak.steps())
        self.assertEqual(rules_of(P, [weak, again]), WEAK_RULES)
        self.assertEqual(rules_of(P, [again, weak])[34][2], ("answer", "again", "ann", "bob", 1))
        opened = Proto("opened", [(0, [], []), (1, [("label", 0)], []), (0, [], [("word", 3)]), (1, [], [])])
        self.assertEqual(rules_of(P, [opened])[34:], [([], [], ("answer", "opened", "ann", "bob", 3))])

    def test_rules_are_moves(self):
        sealed = read_protocol("protocol sealed { 0 takes nothing puts nothing ; 1 takes cipher 1 puts seal 1 , label 0 ; "
                               "0 takes seal 1 , label 0 puts nothing ; }")
        rules = rules_of(T, [sealed])
        letters = [("cipher", "bob"), ("seal", "bob"), ("label", "ann"), ("cipher", "eve"), ("seal", "eve")]
        moves = [("put", layer) for layer in letters + [("word", 4)]] + [("take", layer) for layer in letters + [("word", 4)]]
        moves += [("answer", "sealed", agent, partner, step) for agent, partner in itertools.permutations(T.agents(), 2)
                  for step in (1, 2)]
        for layers in words_up_to(letters, 2):
            by_moves = []
            for move in moves:
                word, told = done(T, [sealed], [(layers, 5)], move + (0,))
                if word == "held" and told[0] not in by_moves:
                    by_moves.append(told[0])
            by_rules = [after(rules, layers, rule) for rule in range(len(rules))]
            for row in by_moves:
                self.assertIn(row, by_rules)
            for row in by_rules:
                if row is not None and not any(layer[0] == "word" and layer[1] != 4 for layer in row):
                    if len(row) <= len(layers) or row[0] in letters:
                        self.assertIn(row, by_moves)

    def test_after(self):
        rules = [([("word", 1), ("label", "zoe")], [("word", 2)], object()), ([], [], None)]
        row = [("word", 1), ("label", "zoe"), ("seal", "ann")]
        self.assertEqual(after(rules, row, 0), [("word", 2), ("seal", "ann")])
        self.assertEqual(after(rules, row, 1), row)
        self.assertIsNot(after(rules, row, 1), row)
        self.assertIsNone(after(rules, row[1:], 0))
        self.assertIsNone(after(rules, row[:1], 0))
        self.assertIsNone(after(rules, [], 0))
        self.assertEqual(after(rules, row[:2], 0), [("word", 2)])

    def test_index_of_the_first_wrong_rule(self):
        good = ([("word", 1)], [], 0)
        for rules, index in (([good, good, 5, 6], 2), ([good, ([("word", 10)], [], 0)], 1), (None, 0), ("ab", 0)):
            for function, rest in ((controls, ()), (after, ([], 0)), (after, (5, True))):
                with self.assertRaises(BadRules) as caught:
                    function(rules, *rest)
                self.assertEqual(caught.exception.index, index)

    def test_controls(self):
        a, b = ("word", 1), ("cipher", "ann")
        rules = [([a, b, a], [], 0), ([a, a], [b, b, b], 0), ([b], [a], 0), ([], [a, b], 0), ([b, a], [], 0), ([a, b], [], 0)]
        self.assertEqual(controls(rules), [(), (b,), (a,), (a, b)])
        self.assertEqual(controls([]), [()])
        self.assertIsInstance(controls(rules)[2][0], tuple)

    def test_limits(self):
        post = Post(AGENTS[:6], [("cipher", "fay"), ("seal", "fay")])
        puts = [("seal", 1), ("label", 0), ("cipher", 0), ("word", 1), ("label", 1), ("cipher", 1)]
        takes = [("seal", 0), ("label", 0), ("cipher", 1), ("word", 2), ("word", 3), ("label", 1)]
        protocol = Proto("long", [(0, [], [("cipher", 1)])] + [(1, takes, puts[:at + 1]) for at in range(6)])
        begin = time.time()
        rules = rules_of(post, [protocol])
        self.assertEqual(len(rules), 2 * (12 + 1 + 10) + 30 * 6)
        self.assertEqual(len(controls(rules)), 1 + 6 + 6 + 30 * 3)
        for at in range(0, len(rules), 10):
            after(rules, [("word", 1)] * 12, at)
        self.assertLess(time.time() - begin, 5)


if __name__ == "__main__":
    unittest.main()

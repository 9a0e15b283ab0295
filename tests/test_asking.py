"""Askers and forms: [12.3], [12.4], and what [12.5] says of them."""

import random
import time
import unittest

from roadheld.agents import Post
from roadheld.alike import only_of
from roadheld.asking import ever, formed, judged_apart
from roadheld.comings import fewest_moves
from roadheld.errors import BadAgents
from roadheld.growing import grown, machine_of
from roadheld.machines import both, is_machine
from roadheld.papers import judged_paper
from roadheld.refusals import BadForm
from roadheld.rules import layers_of, rules_of
from tests import plain
from tests.calls import NO_AGENTS, WRONG_LAYERS
from tests.samples import AGENTS, L, P, deep, listed, r, things, tight, w1, w2, w3, weak, words_up_to

LETTERS = [w1, w2]
NOTHING = (1, [], [], [])


def judged_by_trying(rules, messages, asked, machine, pairs):
    """What judged_apart is to tell of an ascending list of pairs of states, as its point says."""
    told = judged_paper(rules, messages, machine)
    if told is not None and told[0] != "bare":
        return told
    for first in sorted((s, t) for s in machine[1] for t in asked[1]):
        if first not in pairs:
            return ("first", first)
    for pair in pairs:
        lacking = [(layer, (u, v)) for s, layer, u in machine[2] for t, other, v in asked[2]
                   if (s, t) == pair and layer == other and (u, v) not in pairs]
        if lacking:
            return ("row", pair) + min(lacking)
    for pair in pairs:
        if pair[0] in machine[3] and pair[1] in asked[3]:
            return ("end", pair)
    return None


def is_of_form(layers, form, letters):
    """Whether layers are of a form, letters being those of the agents that are handed in."""
    if not form:
        return not layers
    if form[0] == "more":
        return is_of_form(layers, form[1:], letters) or bool(layers) and layers[0] in letters and is_of_form(layers[1:], form, letters)
    if not layers or layers[0] not in (letters if form[0] == "any" else [form[0]]):
        return False
    return is_of_form(layers[1:], form[1:], letters)


class TestExample(unittest.TestCase):
    def test_words(self):
        self.assertEqual(ever(r, L, formed([], ["any", w3, "more"])), ("held", [w2, w3]))
        self.assertEqual(ever(r, L, formed([], ["any"])), ("held", [w1]))
        self.assertEqual(ever(r, L, formed([], [w2]))[0], "never")

    def test_posts(self):
        rules = rules_of(P, [tight])
        messages = [([("cipher", "bob"), ("label", "ann")], 7)]
        told = ever(rules, messages, formed([], []))
        self.assertEqual((told[0], len(told)), ("never", 3))
        self.assertIsNone(judged_apart(rules, messages, formed([], []), told[1], told[2]))
        self.assertIsNone(judged_paper(rules, messages, told[1]))
        self.assertEqual(ever(rules, messages, formed(["ann", "bob", "eve"], [("cipher", "eve"), "more"])),
                         ("held", [("cipher", "eve"), ("cipher", "ann")]))


class TestEver(unittest.TestCase):
    def test_by_trying(self):
        seen = {"held": 0, "never": 0}
        for chance in plain.chances(400):
            rules = plain.random_rules(chance, LETTERS, chance.randint(0, 4), (0, 2), (0, 2))
            messages = [(plain.random_layers(chance, LETTERS, 0, 3), 0) for _ in range(chance.randint(0, 2))]
            asked = plain.random_machine(chance, LETTERS, chance.randint(1, 4), 6)
            told = ever(rules, messages, asked)
            seen[told[0]] += 1
            least = only_of(both(grown(rules, machine_of(messages)), asked), NOTHING)
            if told[0] == "held":
                self.assertEqual(told, ("held", least))
                self.assertTrue(plain.is_taken(asked, told[1]))
                self.assertIsNotNone(fewest_moves(rules, messages, told[1]))
                for layers in words_up_to(LETTERS, min(3, len(told[1]))):
                    if len(layers) < len(told[1]) or layers < told[1]:
                        self.assertFalse(plain.is_taken(asked, layers) and fewest_moves(rules, messages, layers) is not None)
            else:
                self.assertIsNone(least)
                self.assertTrue(is_machine(told[1]))
                self.assertIsNone(judged_by_trying(rules, messages, asked, told[1], told[2]))
                self.assertIsNone(judged_apart(rules, messages, asked, told[1], told[2]))
                self.assertEqual(told[2], sorted(set(told[2])))
        self.assertGreater(min(seen.values()), 60)

    def test_edges(self):
        self.assertEqual(ever([], [], NOTHING), ("never", *ever([], [], NOTHING)[1:]))
        self.assertEqual(ever([], [([], 1)], (1, [0], [], [0])), ("held", []))
        self.assertEqual(ever([], [([w1], 1)], (1, [0], [], [0]))[0], "never")
        self.assertEqual(ever([], [([w2, w2], 1), ([w1, w2], 1), ([w3, w1, w1], 1)], formed([], ["more"])), ("held", [w1, w2]))
        self.assertEqual(ever([], [([("label", "zoe")], 1)], formed([], ["more"]))[0], "never")
        self.assertEqual(ever([], [([("label", "zoe")], 1)], formed(["zoe"], ["more"])), ("held", [("label", "zoe")]))

    def test_never_both(self):
        for chance in plain.chances(150):
            rules = plain.random_rules(chance, LETTERS, 3, (0, 2), (0, 2))
            messages = [(plain.random_layers(chance, LETTERS, 0, 3), 0)]
            asked = plain.random_machine(chance, LETTERS, chance.randint(1, 3), 6)
            if ever(rules, messages, asked)[0] == "held":
                machine = grown(rules, machine_of(messages))
                pairs = [(s, t) for s in range(machine[0]) for t in range(asked[0])]
                self.assertIsNotNone(judged_apart(rules, messages, asked, machine, pairs))
                for _ in range(20):
                    other = plain.random_machine(chance, LETTERS, chance.randint(1, 3), 6)
                    some = sorted({(chance.randrange(other[0]), chance.randrange(asked[0])) for _ in range(4)})
                    self.assertIsNotNone(judged_apart(rules, messages, asked, other, some))


class TestJudged(unittest.TestCase):
    def test_by_trying(self):
        seen = {}
        for chance in plain.chances(1500):
            machine = plain.random_machine(chance, LETTERS, chance.randint(1, 3), 5)
            asked = plain.random_machine(chance, LETTERS, chance.randint(1, 3), 5)
            rules = plain.random_rules(chance, LETTERS, chance.choice((0, 0, 0, 1)), (0, 1), (0, 1))
            messages = [(plain.random_layers(chance, LETTERS, 0, 1), 0) for _ in range(chance.choice((0, 0, 0, 1)))]
            every = [(s, t) for s in range(machine[0]) for t in range(asked[0])]
            pairs = [pair for pair in every if chance.random() < chance.choice((0.5, 0.95, 1))]
            told = judged_apart(rules, messages, asked, machine, pairs)
            self.assertEqual(told, judged_by_trying(rules, messages, asked, machine, pairs))
            self.assertEqual(judged_apart(rules, messages, listed(asked), listed(machine), listed(pairs)), told)
            kind = told and told[0]
            seen[kind] = seen.get(kind, 0) + 1
            if told and told[0] in ("first", "row", "end"):
                self.assertIsInstance(told[1], tuple)
        self.assertGreater(min(seen[kind] for kind in (None, "message", "rule", "first", "row", "end")), 40)

    def test_form(self):
        machine, asked = (2, [0], [], [1]), (3, [1], [], [2])
        self.assertIsNone(judged_apart([], [], asked, machine, [(0, 1)]))
        self.assertIsNone(judged_apart([], [], asked, machine, ([0, 1], (0, 2))))
        for wrong in [[(0, 1), (0, 1)], [(0, 2), (0, 1)], [(2, 1)], [(0, 3)], [(0,)], [(0, 1, 2)], [(False, 1)], [(0, True)], [(-1, 1)],
                      (0, 1), "01", {0: 1}, None, [(0, 10 ** 3000)], [(0, 1), None]] + things():
            self.assertEqual(judged_apart([], [], asked, machine, wrong), ("form",))
            self.assertEqual(judged_apart([], [([], 0)], asked, machine, wrong), ("message", 0))
        self.assertEqual(judged_apart([], [], asked, machine, deep()), ("form",))
        self.assertEqual(judged_apart([([], [w1], 0)], [], asked, machine, None), ("rule", 0, 0))

    def test_bent(self):
        for chance in plain.chances(40):
            rules = plain.random_rules(chance, LETTERS, 3, (0, 2), (0, 2))
            messages = [(plain.random_layers(chance, LETTERS, 1, 3), 0)]
            asked = plain.random_machine(chance, LETTERS, chance.randint(1, 3), 6)
            told = ever(rules, messages, asked)
            for pairs in plain.bent(told[2], [0, 1, 5, True]) if told[0] == "never" else []:
                right = isinstance(pairs, list) and all(
                    isinstance(pair, tuple) and len(pair) == 2 and pair[0] is not True and pair[1] is not True
                    and pair[0] < told[1][0] and pair[1] < asked[0] for pair in pairs) and sorted(set(pairs)) == pairs
                due = judged_by_trying(rules, messages, asked, told[1], pairs) if right else ("form",)
                self.assertEqual(judged_apart(rules, messages, asked, told[1], pairs), due)


class TestForms(unittest.TestCase):
    def test_by_trying(self):
        letters = layers_of(["ann"])
        some = [("cipher", "ann"), ("word", 0), ("label", "zoe"), ("word", 9)]
        for chance in plain.chances(60):
            form = [chance.choice(["any", "more", "more", some[0], some[2], some[3]]) for _ in range(chance.randint(0, 4))]
            machine = formed(["ann"], form)
            self.assertTrue(is_machine(machine))
            for layers in words_up_to(some, 4):
                self.assertIs(plain.is_taken(machine, layers), is_of_form(layers, form, letters), (form, layers))
            self.assertEqual(formed(("ann",), tuple(listed(form))), machine)

    def test_edges(self):
        self.assertTrue(plain.is_taken(formed([], []), []))
        self.assertFalse(plain.is_taken(formed([], []), [w1]))
        self.assertTrue(plain.is_taken(formed([], ["more"]), []))
        for layer in layers_of(["ann", "bob"]):
            self.assertIs(plain.is_taken(formed([], ["any"]), [layer]), layer[0] == "word")
            self.assertIs(plain.is_taken(formed(["bob"], ["more"]), [layer, layer]), layer[1] != "ann")
        self.assertEqual(formed(["bob", "ann"], ["any", "more"]), formed(["ann", "bob"], ["any", "more"]))
        self.assertTrue(plain.is_taken(formed(["any", "more"], [("label", "any"), "any"]), [("label", "any"), ("seal", "more")]))

    def test_refused(self):
        for wrong in [["ann", "ann"], "ann", ["Ann"], ["bob", None], {"ann": 1}] + [["bob", name] for name in NO_AGENTS] + things():
            with self.assertRaises(BadAgents) as caught:
                formed(wrong, None)
            self.assertIs(caught.exception.agents, wrong)
        for wrong in ["any", [["any"]], ["every"], ["Any"], [w1, "more", None], w1, {"any": 1}] + [[layer] for layer in WRONG_LAYERS] + things():
            with self.assertRaises(BadForm) as caught:
                formed(["ann"], wrong)
            self.assertIs(caught.exception.form, wrong)


class TestLimits(unittest.TestCase):
    def test_great_machines(self):
        letters = layers_of(AGENTS[:6])
        begin = time.time()
        words = set()
        for seed in range(6):
            chance = random.Random(seed)
            rules = plain.random_rules(chance, letters[:(12, 28)[seed % 2]], 120, (seed % 2, 6), (0, 6))
            messages = [(plain.random_layers(chance, letters[:6], 12, 12), 0) for _ in range(4)]
            asked = plain.random_machine(chance, letters, 30, 1050)
            told = ever(rules, messages, asked)
            words.add(told[0])
            if told[0] == "never":
                self.assertIsNone(judged_apart(rules, messages, asked, told[1], told[2]))
            other = formed(AGENTS[:6], [("cipher", "dan"), "any", ("seal", "fay")] + ["any", "more"] * 5)
            told = ever(rules, messages, other)
            words.add(told[0])
            if told[0] == "never":
                self.assertIsNone(judged_apart(rules, messages, other, told[1], told[2]))
        self.assertEqual(words, {"held", "never"})
        self.assertLess(time.time() - begin, 60)

    def test_posts(self):
        post = Post(AGENTS[:6], [("cipher", "fay"), ("seal", "fay")])
        rules = rules_of(post, [weak, tight])
        begin = time.time()
        messages = [([("cipher", "bob"), ("label", "ann")] * 6, 1), ([("label", "ann")] * 12, 1)]
        told = ever(rules, messages, formed(AGENTS[:6], ["any"] * 12 + [("label", "dan")]))
        self.assertEqual(told[0], "held")
        self.assertEqual(len(told[1]), 13)
        machine = plain.random_machine(random.Random(1), layers_of(AGENTS[:6]), 100, 3000)
        judged_apart(rules, [], (30, [0], [], [1]), machine, [(s, t) for s in range(100) for t in range(30)])
        self.assertLess(time.time() - begin, 20)


if __name__ == "__main__":
    unittest.main()

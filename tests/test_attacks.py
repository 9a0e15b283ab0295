"""Attacks of a post: [9.7], with the moves of [7.2] and the reasons of [6.2]."""

import random
import time
import unittest

from roadheld.agents import Post
from roadheld.attacks import attack_of, fewest, judged_attack
from roadheld.drops import down
from roadheld.posts import held_by
from roadheld.protocols import Proto
from roadheld.rules import first_messages, rules_of
from tests.plain import nearest
from tests.samples import AGENTS, G, H, P, T, deep, strong, things, tight, weak, words_up_to

FIRST = [([("label", "ann"), ("cipher", "bob")], 0)]


def random_protocol(chance, name):
    """A protocol of three steps by chance."""
    steps = [(0, [], [chance.choice([("cipher", 1), ("label", 0), ("word", 1)]) for _ in range(chance.randint(1, 3))])]
    for part in (1, 0):
        takes = [("cipher", part), ("label", 0), ("label", 1), ("seal", 0), ("seal", 1), ("word", 1)]
        puts = [("cipher", 0), ("cipher", 1), ("label", 0), ("label", 1), ("seal", part), ("word", 1)]
        steps.append((part, [chance.choice(takes) for _ in range(chance.randint(0, 3))],
                      [chance.choice(puts) for _ in range(chance.randint(0, 3))]))
    return Proto(name, steps)


class TestFewest(unittest.TestCase):
    def test_examples(self):
        self.assertEqual(fewest(T, [G], FIRST), (4, 0))
        self.assertIsNone(fewest(T, [H], [([("cipher", "bob"), ("label", "ann")], 0)]))
        self.assertEqual(fewest(P, [strong], first_messages(P, [strong], "ann", "bob", 7)), (13, 0))
        self.assertEqual(fewest(P, [weak], [([("cipher", "bob")], 7)]), (2, 0))

    def test_the_least_index_of_the_nearest(self):
        far, near, never = ([("cipher", "bob")], 1), ([("label", "bob")], 1), ([("cipher", "ann")] * 2 + [("seal", "ann")], 1)
        self.assertEqual(fewest(P, [weak], [far, near, near, far]), (1, 1))
        self.assertEqual(fewest(P, [weak], [far, ([], 3), near, ([], 4)]), (0, 1))
        self.assertEqual(fewest(P, [], [far, never, near]), (1, 2))
        self.assertIsNone(fewest(P, [], [far, far]))
        self.assertIsNone(fewest(P, [weak], []))
        self.assertIsInstance(fewest(P, [weak], [far]), tuple)

    def test_it_is_what_comes_down_by_the_rules(self):
        for seed in range(25):
            chance = random.Random(seed)
            protocols = [random_protocol(chance, name) for name in ("one", "two")]
            messages = first_messages(P, protocols, "ann", "bob", 7)
            rules = rules_of(P, protocols)
            numbers = [down(rules, layers) for layers, _ in messages]
            told = [(number, index) for index, number in enumerate(numbers) if number is not None]
            self.assertEqual(fewest(P, protocols, messages), min(told) if told else None)
            found = attack_of(P, protocols, messages, 60)
            if found is not None and found[0] != "long":
                self.assertIsNone(judged_attack(P, protocols, messages, found))
                self.assertEqual((len(found[1]), found[0]), min(told))
            else:
                self.assertEqual(found, ("long", min(told)[0]) if told else None)

    def test_none_is_nearer_by_trying(self):
        post = Post(["a", "b"], [("cipher", "a"), ("seal", "a")])
        letters = [("cipher", "a"), ("cipher", "b"), ("label", "a")]
        protocols = [Proto("one", [(0, [], []), (1, [("cipher", 1)], [("label", 1)]), (0, [("label", 1)], [("cipher", 1)])])]
        rules = rules_of(post, protocols)
        for layers in words_up_to(letters, 2):
            number = fewest(post, protocols, [(layers, 0)])
            told = nearest(rules, [layers], 4, 4)
            if number is None or number[0] > 4:
                self.assertNotIn((), told)
            else:
                self.assertEqual(told[()], number[0])


class TestAttacks(unittest.TestCase):
    def test_attack(self):
        index, moves = attack_of(T, [G], FIRST, 4)
        self.assertEqual((index, len(moves)), (0, 4))
        self.assertIsInstance(attack_of(T, [G], FIRST, 4), tuple)
        log = [("begin", "greet", "ann", "bob", 0)] + [move + (at,) for at, move in enumerate(moves)]
        self.assertEqual(held_by(T, [G], log)[-1], ([], 0))

    def test_most(self):
        for most in range(4):
            self.assertEqual(attack_of(T, [G], FIRST, most), ("long", 4))
        self.assertEqual(attack_of(T, [G], FIRST, 10 ** 3000), attack_of(T, [G], FIRST, 4))
        self.assertIsNone(attack_of(T, [H], [([("cipher", "bob"), ("label", "ann")], 0)], 0))
        self.assertEqual(attack_of(T, [H], [([("cipher", "bob")], 0), ([], 0)], 0), (1, []))

    def test_long_ones_are_told_by_their_number(self):
        steps = [(0, [], [("word", 0)])] + [(1, [("word", at)], [("word", at + 1)] * 6 + [("label", 0)]) for at in range(7)]
        chain = Proto("chain", steps)
        post = Post(["a", "b"], [("cipher", "a"), ("seal", "a")])
        told = attack_of(post, [chain], [([("cipher", "b")], 0), ([("word", 0)], 0)], 5)
        self.assertEqual(told, (1, [("take", ("word", 0))]))
        self.assertEqual(attack_of(post, [chain], [([("word", 0)] * 12, 0)], 11), ("long", 12))
        index, moves = attack_of(post, [chain], [([("seal", "b"), ("word", 5)] * 100, 0)], 200)
        self.assertEqual((index, len(moves)), (0, 200))


class TestJudged(unittest.TestCase):
    def judged(self, thing, due, messages=FIRST):
        self.assertEqual(judged_attack(T, [G, H], messages, thing), due, thing)

    def test_right(self):
        moves = [("take", ("label", "ann")), ("put", ("label", "eve")), ("answer", "greet", "bob", "eve", 1),
                 ("take", ("cipher", "eve"))]
        self.judged((0, moves), None)
        self.judged([0, tuple([list(move) for move in moves])], None)
        self.judged((1, []), None, FIRST + [([], 3)])
        self.judged((1, [("put", ("word", 1)), ("take", ("word", 1))]), None, FIRST + [([], 3)])

    def test_form(self):
        for thing in things() + [(0, []) + (1,), (0,), (0, "ab"), (0, {}), (-1, []), (True, []), (None, []), ("0", []), (0.0, [])]:
            if not (isinstance(thing, (list, tuple)) and len(thing) == 2 and thing[0].__class__ is int and thing[0] >= 0
                    and isinstance(thing[1], (list, tuple))):
                self.judged(thing, ("form",))

    def test_index(self):
        self.judged((1, []), ("index",))
        self.judged((10 ** 3000, [5]), ("index",))
        self.judged((0, []), ("index",), [])

    def test_moves(self):
        for move, why in ((("begin", "greet", "ann", "bob"), "form"), (("own",), "form"), (("own", 1), "form"), ((), "form"),
                          (("begin", "greet", "ann", "bob", 1), "form"), (("take", ("label", "ann"), 0), "form"),
                          (("answer", "greet", "bob", "ann", 1, 0), "form"), (("answer", "greet", "bob", "ann"), "form"),
                          (("answer", "none", "bob", "bob", 0), "protocol"), (("answer", "greet", "bob", "bob", 0), "agents"),
                          (("answer", "greet", "bob", "zoe", 0), "agents"), (("answer", "greet", "bob", "ann", 0), "step"),
                          (("answer", "greet", "bob", "ann", True), "step"), (("answer", "greet", "ann", "bob", 1), "top"),
                          (("answer", "hide", "bob", "ann", 1), "top"), (("put", ("label", "zoe")), "layer"),
                          (("put", ("seal", "ann")), "may"), (("take", ("cipher", "bob")), "may"), (("take", None), "layer"),
                          (("take", ("label", "bob")), "top"), ("take", "form"), (["take", ["word", 1]], "top")):
            self.judged((0, [move]), ("move", 0, why))
            self.judged((0, [("put", ("word", 1)), ("take", ("word", 1)), move, None]), ("move", 2, why))
        for thing in things():
            self.judged((0, [thing]), ("move", 0, "form"))
            self.judged((0, [("put", thing)]), ("move", 0, "layer"))
            for at in range(1, 5):
                move = ["answer", "greet", "bob", "ann", 1]
                move[at] = thing
                self.assertEqual(judged_attack(T, [G], FIRST, (0, [move]))[0], "move")

    def test_left(self):
        self.judged((0, []), ("left", [("label", "ann"), ("cipher", "bob")]))
        self.judged((0, [("take", ("label", "ann"))]), ("left", [("cipher", "bob")]))
        told = judged_attack(T, [G], FIRST, (0, [("put", ["word", 1])]))
        self.assertEqual(told, ("left", [("word", 1), ("label", "ann"), ("cipher", "bob")]))
        told[1].clear()
        self.assertEqual(FIRST, [([("label", "ann"), ("cipher", "bob")], 0)])

    def test_nested_deep(self):
        self.judged((0, [deep()]), ("move", 0, "form"))
        self.judged((0, [("put", deep())]), ("move", 0, "layer"))

    def test_limits(self):
        agents = AGENTS[:6]
        post = Post(agents, [("cipher", "fay"), ("seal", "fay")])
        begin = time.time()
        protocols = [random_protocol(random.Random(at), name) for at, name in enumerate(("one", "two", "tri", "four"))]
        protocols[:2] = [weak, tight]
        messages = first_messages(post, protocols + [], "ann", "bob", 7) + first_messages(post, protocols, "cid", "fay", 7)
        found = attack_of(post, protocols, messages, 200)
        self.assertIsNone(judged_attack(post, protocols, messages, found))
        moves = [("put", ("word", 1))] * 50 + [("take", ("word", 1))] * 50
        self.assertIsNone(judged_attack(post, protocols, messages, (found[0], moves[:90] + moves[90:] + found[1])))
        self.assertLess(time.time() - begin, 10)


if __name__ == "__main__":
    unittest.main()

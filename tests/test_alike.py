"""Alike: [19.1], [19.2], [19.3], [19.4], [19.5]."""

import random
import time
import unittest

from roadheld.alike import least_machine, only_of, parting_layers, rules_parted, taken_counts
from roadheld.growing import grown, machine_of
from roadheld.machines import both, either, is_machine, is_taken, pruned
from roadheld.rules import first_messages, rules_of
from tests import plain
from tests.samples import AGENTS, H, L, M, P, T, G, r, tight, w1, w2, w3, weak, words_up_to

LETTERS = [w1, w2]


def from_the_end(place, letters):
    """A machine that takes lists in which the layer at a place from the end is the first one of letters."""
    rows = [(0, layer, 0) for layer in letters] + [(0, letters[0], 1)]
    rows += [(at, layer, at + 1) for at in range(1, place) for layer in letters]
    return (place + 1, [0], sorted(rows), [place])


def ring(many, ends):
    return (many, [0], sorted((at, w1, (at + 1) % many) for at in range(many)), ends)


def kinds_of_begins(machine, letters, longest):
    """How many unlike lots of continuations the begins of what is taken have."""
    kinds = set()
    for layers in words_up_to(letters, longest):
        kind = tuple(plain.is_taken(machine, layers + more) for more in words_up_to(letters, longest))
        if any(kind):
            kinds.add(kind)
    return len(kinds)


class TestExample(unittest.TestCase):
    def test_words(self):
        told = least_machine(grown(r, machine_of(L)))
        self.assertEqual(told, (3, [0], [(0, w1, 1), (0, w2, 2), (0, w3, 1), (2, w3, 1)], [1]))
        self.assertEqual(taken_counts(told, 3), [0, 2, 1, 0])
        self.assertEqual(parting_layers(M, told), (0, [w2, w1]))

    def test_posts(self):
        messages = [([("cipher", "bob"), ("label", "ann")], 7)]
        self.assertEqual(rules_parted(rules_of(P, [weak]), messages, rules_of(P, [tight]), messages), (0, []))


class TestLeast(unittest.TestCase):
    def determined(self, machine):
        self.assertTrue(is_machine(machine))
        self.assertEqual(machine[1], [0])
        self.assertEqual(len({(state, layer) for state, layer, _ in machine[2]}), len(machine[2]))
        met = [0]
        for _, _, other in machine[2]:
            if other not in met:
                met.append(other)
        self.assertEqual(met, list(range(machine[0])))

    def test_nothing_is_taken(self):
        for machine in ((1, [], [], []), (5, [1], [(1, w1, 2)], [3]), (2, [0, 1], [(0, w1, 1)], [])):
            self.assertEqual(least_machine(machine), (1, [0], [], []))
            self.assertEqual(taken_counts(machine, 2), [0, 0, 0])

    def test_few(self):
        self.assertEqual(least_machine((1, [0], [], [0])), (1, [0], [], [0]))
        self.assertEqual(least_machine((3, [0, 1, 2], [(0, w1, 1), (1, w1, 2), (2, w1, 0)], [0, 1, 2])),
                         (1, [0], [(0, w1, 0)], [0]))
        self.assertEqual(least_machine((4, [3], [
            (1, w3, 0), (2, w3, 0), (3, w1, 2), (3, w2, 1)], [0])),
                         (3, [0], [(0, w1, 1), (0, w2, 1), (1, w3, 2)], [2]))

    def test_by_trying(self):
        for chance in plain.chances(250):
            machine = plain.random_machine(chance, LETTERS, chance.randint(1, 5), chance.randint(1, 9))
            told = least_machine(machine)
            self.determined(told)
            for layers in words_up_to(LETTERS, 5):
                self.assertIs(plain.is_taken(told, layers), plain.is_taken(machine, layers))
            if told[0] <= 4:
                self.assertEqual(max(1, kinds_of_begins(machine, LETTERS, 3)), told[0])
            self.assertEqual(pruned(told) if told[3] else (1, [0], [], []), told)

    def test_just_one(self):
        for chance in plain.chances(100):
            machine = plain.random_machine(chance, LETTERS, chance.randint(1, 4), 6)
            told = least_machine(machine)
            for same in (pruned(machine), either(machine, machine), both(machine, machine), told,
                         either(machine, (1, [], [], [])), both(told, machine)):
                self.assertEqual(least_machine(same), told)

    def test_great_ones_of_few(self):
        everything = (1, [0], [(0, w1, 0), (0, w2, 0)], [0])
        for many in (20, 100):
            self.assertEqual(least_machine(either(everything, from_the_end(many, LETTERS))), everything)
            some = least_machine(either(from_the_end(many, LETTERS), from_the_end(many, LETTERS[::-1])))
            self.assertEqual(some[0], many + 1)
        self.assertEqual(least_machine(from_the_end(8, LETTERS))[0], 256)

    def test_what_is_determined_from_the_end(self):
        # All lists of so many layers and more, told by the layer at a place from the end; where it is the second one,
        # told once for each layer at the end: so no state can do all that another one can, from the begin.
        for many in (12, 30):
            one = from_the_end(many, LETTERS)
            others = [from_the_end(many, LETTERS[::-1]) for _ in LETTERS]
            for machine, last in zip(others, LETTERS):
                machine[2][:] = [row for row in machine[2] if row[0] != many - 1 or row[1] == last]
            told = least_machine(either(one, either(others[0], others[1])))
            self.assertEqual(told, (many + 1, [0], sorted({(min(at, many), layer, min(at + 1, many))
                                                           for at in range(many + 1) for layer in LETTERS}), [many]))

    def test_a_place_from_the_begin(self):
        rows = [(0, w1, 0), (0, w2, 0), (0, w1, 1)] + [(at, layer, at + 1) for at in range(1, 30) for layer in LETTERS]
        machine = (31, [0], sorted(rows + [(30, w1, 30), (30, w2, 30)]), [30])
        self.assertEqual(least_machine(machine)[0], 31)
        self.assertEqual(taken_counts(machine, 31)[-2:], [1 << 29, 3 << 29])


class TestParted(unittest.TestCase):
    def test_by_trying(self):
        kinds = {None: 0, 0: 0, 1: 0}
        for chance in plain.chances(250):
            one = plain.random_machine(chance, LETTERS, chance.randint(1, 3), 5)
            other = plain.random_machine(chance, LETTERS, chance.randint(1, 3), 5)
            told, alone = parting_layers(one, other), only_of(one, other)
            unlike = [layers for layers in words_up_to(LETTERS, 5) if plain.is_taken(one, layers) != plain.is_taken(other, layers)]
            mine = [layers for layers in unlike if plain.is_taken(one, layers)]
            self.assertEqual(told is None, least_machine(one) == least_machine(other))
            if unlike:
                self.assertEqual(told, (0 if unlike[0] in mine else 1, unlike[0]))
            if mine:
                self.assertEqual(alone, mine[0])
            elif alone is not None:
                self.assertTrue(plain.is_taken(one, alone) and not plain.is_taken(other, alone))
                self.assertGreater(len(alone), 5)
            kinds[told and told[0]] += 1
        self.assertGreater(min(kinds.values()), 10)

    def test_edges(self):
        nothing, empty, one = (1, [], [], []), (1, [0], [], [0]), (2, [0], [(0, w1, 1)], [1])
        self.assertIsNone(parting_layers(nothing, nothing))
        self.assertEqual(parting_layers(nothing, empty), (1, []))
        self.assertEqual(parting_layers(empty, one), (0, []))
        self.assertIsNone(only_of(nothing, one))
        self.assertEqual(only_of(one, nothing), [w1])
        self.assertEqual(only_of(one, empty), [w1])
        self.assertIsInstance(parting_layers(empty, one), tuple)
        wide = (2, [0], [(0, ("cipher", "ann"), 1), (0, ("label", "ann"), 1), (0, ("word", 0), 1)], [1])
        self.assertEqual(only_of(wide, (2, [0], [(0, ("cipher", "ann"), 1)], [1])), [("label", "ann")])

    def test_rings(self):
        self.assertEqual(len(only_of(ring(13, [0]), ring(17, [0]))), 13)
        self.assertEqual(len(only_of(ring(13, list(range(13))), ring(17, list(range(16))))), 16)
        self.assertEqual(len(parting_layers(ring(97, list(range(96))), ring(101, list(range(100))))[1]), 96)
        self.assertEqual(len(only_of(ring(97, list(range(96))), ring(101, list(range(100))))), 100)


class TestCounted(unittest.TestCase):
    def test_by_trying(self):
        for chance in plain.chances(100):
            machine = plain.random_machine(chance, LETTERS, chance.randint(1, 4), 7)
            due = [0] * 6
            for layers in words_up_to(LETTERS, 5):
                due[len(layers)] += plain.is_taken(machine, layers)
            self.assertEqual(taken_counts(machine, 5), due)
            self.assertEqual(taken_counts(machine, 0), due[:1])

    def test_exact(self):
        letters = [("word", number) for number in range(10)]
        everything = (1, [0], [(0, layer, 0) for layer in letters], [0])
        self.assertEqual(taken_counts(everything, 200), [10 ** many for many in range(201)])
        self.assertEqual(taken_counts(either(everything, everything), 200)[200], 10 ** 200)


class TestRulesParted(unittest.TestCase):
    def test_by_trying(self):
        seen = {True: 0, False: 0}
        for chance in plain.chances(200):
            rules = plain.random_rules(chance, LETTERS, 3, (0, 2), (0, 2))
            others = rules[:2] if chance.random() < 0.5 else plain.random_rules(chance, LETTERS, 3, (0, 2), (0, 2))
            messages = [(plain.random_layers(chance, LETTERS, 0, 3), 0)]
            besides = messages if chance.random() < 0.7 else [(plain.random_layers(chance, LETTERS, 0, 3), 5)]
            one, other = grown(rules, machine_of(messages)), grown(others, machine_of(besides))
            told = rules_parted(rules, messages, others, besides)
            self.assertEqual(told, parting_layers(one, other))
            self.assertEqual(told is None, least_machine(one) == least_machine(other))
            if told is not None:
                self.assertIs(is_taken(one, told[1]), told[0] == 0)
                self.assertIs(is_taken(other, told[1]), told[0] == 1)
            seen[told is None] += 1
        self.assertGreater(min(seen.values()), 10)

    def test_posts(self):
        first = first_messages(T, [G], "ann", "bob", 0)
        self.assertIsNone(rules_parted(rules_of(T, [G]), first, rules_of(T, [G, G][:1]), [(first[0][0], 99)]))
        side, layers = rules_parted(rules_of(T, [G]), first, rules_of(T, [H]), first)
        self.assertEqual((side, layers), (0, []))
        self.assertEqual(rules_parted(rules_of(T, [G]), [], rules_of(T, [H]), first)[0], 1)
        self.assertIsNone(rules_parted([], [], rules_of(T, [H]), []))


class TestLimits(unittest.TestCase):
    def test_machines(self):
        begin = time.time()
        for seed in range(3):
            chance = random.Random(seed)
            letters = [("word", number) for number in range(10)] + [("cipher", "ann"), ("seal", "ann"), ("label", "bob")]
            rows = [(state, layer, chance.randrange(200)) for state in range(200) for layer in sorted(letters)]
            ends = sorted(chance.sample(range(200), 60))
            machine = (200, [0], rows, ends)
            self.assertEqual(least_machine(machine)[0], 200)
            self.assertIsNotNone(parting_layers(machine, (200, [0], rows, ends[:-1])))
            self.assertIsNone(only_of((200, [0], rows, ends[:-1]), machine))
            self.assertEqual(len(taken_counts(machine, 200)), 201)
        chain = (200, [0], [(state, layer, state + 1) for state in range(199) for layer in LETTERS], [199])
        self.assertEqual(least_machine(chain)[0], 200)
        self.assertEqual(taken_counts(chain, 200)[199:], [1 << 199, 0])
        self.assertIsNone(parting_layers(from_the_end(8, LETTERS), least_machine(from_the_end(8, LETTERS))))
        self.assertLess(time.time() - begin, 20)

    def test_rules(self):
        agents = AGENTS[:6]
        begin = time.time()
        for seed in range(3):
            chance = random.Random(seed)
            letters = [(kind, agent) for kind in ("cipher", "label") for agent in agents] + [("word", 1), ("word", 2)]
            rules = plain.random_rules(chance, letters, 120, (1, 3), (0, 3))
            messages = [(plain.random_layers(chance, letters, 12, 12), 0) for _ in range(4)]
            told = rules_parted(rules, messages, rules[:-40], messages)
            self.assertIsNone(rules_parted(rules, messages, rules[::-1], messages[::-1]))
            self.assertTrue(told is None or told[0] == 0)
        self.assertLess(time.time() - begin, 30)


if __name__ == "__main__":
    unittest.main()

"""Papers: [10.2], [10.3], [10.4], [10.6]."""

import random
import time
import unittest

from roadheld.growing import grown, machine_of
from roadheld.machines import both, either, is_machine, is_taken, pruned
from roadheld.papers import is_paper, judged_paper
from tests import plain
from tests.calls import NO_MACHINES
from tests.samples import L, M, r, things, w1, w2, w3, words_up_to

LETTERS = [w1, w2, w3]


def judged_by_trying(rules, messages, machine):
    """What judged_paper is to tell, as its point says."""
    for index, (layers, _) in enumerate(messages):
        if not plain.is_taken(machine, layers):
            return ("message", index)
    for index, rule in enumerate(rules):
        lacking = plain.led(machine, machine[1], rule[0]) - plain.led(machine, machine[1], rule[1])
        if lacking:
            return ("rule", index, min(lacking))
    bare = set(machine[1]) & set(machine[3])
    return ("bare", min(bare)) if bare else None


def papers_by_chance(many):
    """Rules, messages and papers of them."""
    found = []
    for chance in plain.chances(many):
        rules = plain.random_rules(chance, LETTERS, 3, (1, 2), (0, 2))
        messages = [(plain.random_layers(chance, LETTERS, 1, 3), 0) for _ in range(2)]
        machine = grown(rules, machine_of(messages))
        if judged_paper(rules, messages, machine) is None:
            found.append((rules, messages, machine))
    return found


class TestExample(unittest.TestCase):
    def test_judged(self):
        self.assertIsNone(judged_paper(r, L, M))
        self.assertEqual(judged_paper(r, L, (2, [0], M[2][:-1], [1])), ("rule", 0, 1))
        self.assertEqual(judged_paper(r, L, (2, [0], M[2], [0, 1])), ("bare", 0))
        self.assertEqual(judged_paper(r, [([w2, w1], 7), ([], 1)], M), ("message", 1))
        self.assertIs(is_paper(r, L, M), True)
        self.assertIs(is_paper(r, L, (2, [0], M[2][:-1], [1])), False)
        self.assertIs(is_paper(r, L, (2, [0], M[2], [0, 1])), False)


class TestJudged(unittest.TestCase):
    def test_order(self):
        wrong = (3, [0, 1], [(0, w1, 2)], [1])
        self.assertEqual(judged_paper([([w1], [w1], 0), ([w1], [w2], 0)], [([], 0), ([w1], 0), ([w2], 0)], wrong), ("message", 1))
        self.assertEqual(judged_paper([([w1], [w1], 0), ([w1], [w2], 0), ([w1], [], 0)], [([], 0)], wrong), ("rule", 1, 2))
        self.assertEqual(judged_paper([([w1], [w1], 0)], [([], 0)], wrong), ("bare", 1))

    def test_rules_that_take_or_put_nothing(self):
        machine = (2, [0], [(0, w1, 1), (1, w1, 1)], [1])
        self.assertEqual(judged_paper([([], [w1], 0)], [], machine), ("rule", 0, 0))
        self.assertEqual(judged_paper([([w1], [], 0)], [], machine), ("rule", 0, 1))
        self.assertIsNone(judged_paper([([], [], 0), ([w1], [w1, w1], 0), ([w2], [], 0)], [([w1], 0)], machine))
        self.assertIsNone(judged_paper([([], [w1], 0)], [], (1, [], [], [])))

    def test_the_least_state(self):
        machine = (5, [0], [(0, w1, 2), (0, w1, 3), (0, w1, 4), (0, w2, 3)], [4])
        self.assertEqual(judged_paper([([w1], [w2], 0)], [([w1], 0)], machine), ("rule", 0, 2))
        self.assertEqual(judged_paper([([w1], [w1], 0), ([w1], [w2, w2], 0)], [([w1], 0)], machine), ("rule", 1, 2))

    def test_by_trying(self):
        kinds = {}
        for chance in plain.chances(600):
            machine = plain.random_machine(chance, LETTERS, chance.randint(1, 4), 9)
            rules = plain.random_rules(chance, LETTERS, chance.randint(0, 2), (0, 2), (0, 2))
            messages = [(plain.random_layers(chance, LETTERS, 0, 2), 0) for _ in range(chance.randint(0, 1))]
            told = judged_paper(rules, messages, machine)
            self.assertEqual(told, judged_by_trying(rules, messages, machine))
            self.assertIs(is_paper(rules, messages, machine), told is None)
            kinds[told and told[0]] = kinds.get(told and told[0], 0) + 1
        self.assertEqual(set(kinds), {None, "message", "rule", "bare"})
        self.assertGreater(min(kinds.values()), 10)

    def test_any_object(self):
        for thing in NO_MACHINES + things():
            self.assertIs(is_paper(r, L, thing), False)
            self.assertIs(is_paper([], [], thing), False)


class TestHolds(unittest.TestCase):
    def test_what_has_a_paper_never_comes_bare(self):
        papers = papers_by_chance(80)
        self.assertGreater(len(papers), 20)
        for rules, messages, machine in papers:
            told = plain.nearest(rules, [layers for layers, _ in messages], 6, 6)
            self.assertNotIn((), told)
            for layers in told:
                self.assertTrue(is_taken(machine, list(layers)))

    def test_together(self):
        for chance in plain.chances(60):
            rules = plain.random_rules(chance, LETTERS, 3, (1, 2), (0, 2))
            messages = [(plain.random_layers(chance, LETTERS, 1, 3), 0)]
            others = [(plain.random_layers(chance, LETTERS, 1, 3), 0)]
            paper, other = grown(rules, machine_of(messages)), grown(rules, machine_of(others))
            more = grown(rules, machine_of(messages + others))
            if judged_paper(rules, messages, paper) is None and judged_paper(rules, others, other) is None:
                self.assertIsNone(judged_paper(rules, messages + others, either(paper, other)))
                self.assertIsNone(judged_paper(rules, messages, both(paper, more)))
                self.assertIsNone(judged_paper(rules, messages, both(both(paper, more), either(paper, other))))
                self.assertIsNone(judged_paper(rules, messages, pruned(both(paper, more))))
                self.assertIsNone(judged_paper(rules, messages + others, pruned(either(paper, other))))

    def test_limits(self):
        letters = [("word", number) for number in range(10)] + [("cipher", "ann"), ("seal", "ann")]
        begin = time.time()
        for seed in range(3):
            chance = random.Random(seed)
            rules = plain.random_rules(chance, letters, 120, (0, 6), (0, 6))
            messages = [(plain.random_layers(chance, letters, 12, 12), 10 ** 12) for _ in range(4)]
            machine = plain.random_machine(chance, letters, 100, 3200)
            judged_paper(rules, messages, machine)
            full = (100, list(range(100)), machine[2], list(range(100)))
            self.assertIn(judged_paper(rules, messages, full)[0], ("rule", "bare"))
            told = grown(rules, machine_of(messages))
            self.assertTrue(is_machine(told))
            self.assertIn(judged_paper(rules, messages, told), [None] + [("bare", state) for state in told[1]])
            for layers in words_up_to(letters[:2], 2):
                is_taken(told, layers)
        self.assertLess(time.time() - begin, 30)


if __name__ == "__main__":
    unittest.main()

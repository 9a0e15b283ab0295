"""Small questions asked again and again, by turns: the same answers each time, and soon."""

import copy
import time
import unittest

from roadheld.agents import Post
from roadheld.alike import least_machine
from roadheld.answers import answer_for, is_answer
from roadheld.attacks import attack_of, fewest, judged_attack
from roadheld.charts import chart, judged_chart
from roadheld.comings import fewest_moves, is_attack_to, judged_never, never
from roadheld.drops import all_drops, down
from roadheld.errors import BadLayers, BadMachine, BadRules
from roadheld.growing import grown, machine_of
from roadheld.machines import is_machine, is_taken, states_behind
from roadheld.protocols import read_protocol
from roadheld.rules import after, first_messages, rules_of
from tests.plain import bent
from tests.samples import G, H, T, P, listed

GREET = read_protocol("protocol greet { 0 takes nothing puts label 0 , cipher 1 ; 1 takes label 0 , cipher 1 puts cipher 0 ; "
                      "0 takes cipher 0 puts word 1 , cipher 1 ; 1 takes word 1 , cipher 1 puts cipher 0 , label 1 ; }")
LAYERS = [("label", "ann"), ("cipher", "bob")]
QUESTION = (P, [GREET], [(LAYERS, 7)])
RULES = rules_of(P, [GREET])
CHAIN = [([("word", k)], [("word", k + 1), ("word", k + 1)], k) for k in range(6)] + [([("word", 6)], [], 6)]
SMALL = [([("word", 1)], [("word", 2), ("word", 3)], 0), ([("word", 2)], [], 0), ([("word", 3)], [("word", 1)], 1),
         ([("label", "a")], [("word", 1)], 2), ([], [("label", "a")], 3), ([("word", 1), ("label", "a")], [], 4)]
MESSAGES = [([("word", 1)], 7), ([("word", 2), ("label", "a")], 1)]
MACHINE = (6, [0, 2], [(0, ("label", "bob"), 3), (0, ("word", 1), 1), (0, ("word", 2), 0), (1, ("cipher", "ann"), 4),
                       (2, ("word", 3), 1), (3, ("label", "ann"), 2), (3, ("word", 0), 5), (4, ("seal", "bob"), 1),
                       (5, ("word", 7), 0)], [1, 5])
TAKEN = [("word", 2), ("word", 1), ("cipher", "ann")]

CALLS = [
    (after, (RULES, LAYERS, 51), None),
    (after, (RULES, [("label", "ann"), ("cipher", "bob"), ("word", 3)], 40), [("cipher", "ann"), ("word", 3)]),
    (down, (CHAIN, [("word", 0), ("word", 3)]), 142),
    (all_drops, (CHAIN,), [(((), ("word", k), ()), 2 ** (7 - k) - 1) for k in range(7)]),
    (fewest, QUESTION, (4, 0)),
    (is_attack_to, (SMALL, MESSAGES, [("word", 3)], (0, [0, 1])), True),
    (fewest_moves, (SMALL, MESSAGES, [("word", 3)]), 2),
    (states_behind, (MACHINE, [0, 2], TAKEN), [4]),
    (is_taken, (MACHINE, TAKEN), False),
    (is_machine, (MACHINE,), True),
]
OTHERS = [
    (after, (RULES, LAYERS, 0), [RULES[0][1][0]] + LAYERS),
    (down, (CHAIN, [("word", 6), ("word", 6)]), 2),
    (down, (CHAIN[:6], [("word", 0)]), None),
    (all_drops, (CHAIN[5:],), [(((), ("word", 5), ()), 3), (((), ("word", 6), ()), 1)]),
    (fewest, (P, [], [(LAYERS, 7)]), None),
    (is_attack_to, (SMALL, MESSAGES, [("word", 3)], (1, [0, 1])), False),
    (fewest_moves, (SMALL, MESSAGES[:1], [("label", "b")]), None),
    (states_behind, (MACHINE, [3], [("label", "ann"), ("word", 3)]), [1]),
    (is_taken, (MACHINE, TAKEN[:2]), True),
    (is_machine, ((5,) + MACHINE[1:],), False),
]


FIRST = [([("label", "ann"), ("cipher", "bob")], 0)]
LAST = [([("cipher", "bob"), ("label", "ann")], 0)]
BARE = answer_for(T, [G], FIRST)
SAFE = answer_for(T, [H], LAST)
NEST = read_protocol("protocol nest { 0 takes nothing puts cipher 0 , cipher 1 ; 1 takes seal 1 , cipher 1 puts nothing ; }")
NESTED = first_messages(T, [NEST], "ann", "bob", 7)
KEYS = [(kind, agent) for kind in ("cipher", "seal") for agent in ("ann", "bob")]
CHART = chart(T, [NEST], NESTED, KEYS)
JUDGED = [
    (is_answer, (T, [G], FIRST, BARE), True),
    (is_answer, (T, [G], FIRST, ("bare", 0, 5) + BARE[3:]), False),
    (is_answer, (T, [G], FIRST, BARE[:4] + ([],)), False),
    (is_answer, (T, [G], FIRST, ("bare", 5) + BARE[2:]), False),
    (is_answer, (T, [G], FIRST, None), False),
    (is_answer, (T, [G], FIRST, SAFE), False),
    (is_answer, (T, [H], LAST, SAFE), True),
    (is_answer, (T, [H], LAST, BARE), False),
    (is_answer, (T, [G], FIRST, listed(BARE)), True),
    (down, (CHAIN, [("word", 0), ("word", 3)]), 142),
    (down, (rules_of(T, [G]), LAYERS), 4),
    (down, (rules_of(T, [H]), LAYERS[::-1]), None),
    (judged_chart, (T, [NEST], NESTED, KEYS, CHART), None),
    (judged_chart, (T, [NEST], NESTED, KEYS, (CHART[0][1:], CHART[1])), ("lot", CHART[0][0][0])),
    (judged_chart, (T, [NEST], NESTED, KEYS, (CHART[0], CHART[1][::-1])), None),
    (judged_chart, (T, [NEST], NESTED, KEYS, (CHART[1], CHART[0])), ("bare", 0)),
]
POST = Post(["ann", "bob", "cy", "f"], [("cipher", "ann"), ("seal", "ann")])
SWAP = rules_of(POST, [read_protocol(
    "protocol swap { 0 takes nothing puts cipher 1 ; 1 takes cipher 1 puts cipher 0 , word 2 , word 2 ; 1 takes cipher 1 , "
    "word 2 , word 2 puts cipher 0 ; 1 takes cipher 1 puts seal 1 , cipher 0 , label 1 , label 1 ; }")])
SWAPPED = [([("cipher", "bob")], 0), ([("label", "cy"), ("cipher", "f")], 1)]
ASKED = [("cipher", "cy"), ("seal", "bob"), ("seal", "bob")]


class TestOften(unittest.TestCase):
    def test_each_some_thousand_times(self):
        begin = time.time()
        for (function, passed, due), (other, its, told) in zip(CALLS, OTHERS):
            for at in range(2000):
                self.assertEqual(function(*passed), due)
                if at % 8 == 0:
                    self.assertEqual(other(*its), told)
        self.assertLess(time.time() - begin, 20)

    def test_all_by_turns(self):
        begin = time.time()
        for at in range(1000):
            for function, passed, due in CALLS[at % 3::3] + OTHERS[at % 4::4]:
                self.assertEqual(function(*passed), due)
        self.assertLess(time.time() - begin, 10)

    def test_attacks(self):
        first = attack_of(*QUESTION, 200)
        begin = time.time()
        for at in range(2000):
            told = attack_of(*QUESTION, 200)
            self.assertEqual(told, first)
            if at % 50 == 0:
                self.assertIsNone(judged_attack(*QUESTION, told))
                self.assertEqual(len(told[1]), 4)
                self.assertEqual(attack_of(*QUESTION, 3), ("long", 4))
                self.assertIsNone(attack_of(P, [], QUESTION[2], 200))
        self.assertLess(time.time() - begin, 10)

    def test_judged(self):
        begin = time.time()
        for at in range(600):
            for function, passed, due in JUDGED:
                self.assertEqual(function(*passed), due)
            other, its, told = OTHERS[at % len(OTHERS)]
            self.assertEqual(other(*its), told)
        self.assertLess(time.time() - begin, 20)

    def test_bent_answers(self):
        begin = time.time()
        wrong = 0
        for question, right in (((T, [G], FIRST), BARE), ((T, [H], LAST), SAFE)):
            for thing in bent(right, [0, 1, None, ("word", 1)]):
                wrong += not is_answer(*question, thing)
                if wrong % 50 == 0:
                    self.assertIs(is_answer(*question, right), True)
        self.assertGreater(wrong, 1000)
        self.assertLess(time.time() - begin, 10)

    def test_grown(self):
        begin = time.time()
        machine = machine_of(SWAPPED)
        least = least_machine(grown(SWAP, machine))
        first, second = grown(SWAP, machine), never(SWAP, SWAPPED, ASKED)
        self.assertIsNone(judged_never(SWAP, SWAPPED, ASKED, second))
        for at in range(400):
            self.assertEqual(grown(SWAP, machine), first)
            self.assertEqual(never(SWAP, SWAPPED, ASKED), second)
            if at % 40 == 0:
                self.assertEqual(least_machine(grown(SWAP, machine)), least)
                self.assertIsNone(never(SWAP, SWAPPED, [("cipher", "f")]))
                self.assertEqual(least_machine(grown(SWAP[:5], machine_of([]))), (1, [0], [], []))
        self.assertLess(time.time() - begin, 20)

    def test_what_is_passed_is_looked_at_each_time(self):
        rules, machine = listed(CHAIN), listed(MACHINE)
        for _ in range(300):
            self.assertEqual(down(rules, [["word", 0]]), 127)
            rules[0][1].append(["word", 6])
            self.assertEqual(down(rules, [["word", 0]]), 128)
            rules[0][1][2][1] = True
            with self.assertRaises(BadRules) as caught:
                down(rules, [["word", 0]])
            self.assertEqual(caught.exception.index, 0)
            rules[0][1].pop()
            self.assertIs(is_taken(machine, TAKEN[:2]), True)
            machine[3][0] = 2
            self.assertIs(is_taken(machine, TAKEN[:2]), False)
            machine[2][4][2] = 6
            self.assertIs(is_machine(machine), False)
            with self.assertRaises(BadMachine):
                is_taken(machine, TAKEN)
            machine[2][4][2], machine[3][0] = 1, 1
            with self.assertRaises(BadLayers):
                is_taken(machine, TAKEN + [["word", True]])

    def test_what_is_passed_stays_as_it_is(self):
        kept = copy.deepcopy([passed for _, passed, _ in CALLS + OTHERS])
        for function, passed, due in CALLS + OTHERS:
            told = function(*passed)
            if isinstance(told, list):
                told.clear()
            self.assertEqual(function(*passed), due)
        self.assertEqual([passed for _, passed, _ in CALLS + OTHERS], kept)


if __name__ == "__main__":
    unittest.main()

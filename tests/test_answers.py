"""Safe or not: [11.1], [11.2], [11.3], [11.5], and [1.2] over all of it."""

import random
import time
import unittest

from roadheld.agents import Post
from roadheld.answers import answer_for, is_answer, is_more
from roadheld.attacks import attack_of, fewest, judged_attack
from roadheld.audits import audit_text, audited
from roadheld.books import book_down, counts
from roadheld.comings import fewest_moves, judged_never, never
from roadheld.drops import down
from roadheld.errors import BadMessages, BadOther
from roadheld.growing import grown, machine_of
from roadheld.machines import is_machine, is_taken
from roadheld.papers import is_paper, judged_paper
from roadheld.protocols import Proto, read_protocol
from roadheld.rules import first_messages, rules_of
from tests import plain
from tests.samples import (AGENTS, G, H, P, T, deep, listed, random_protocol, random_question, strong, things, tight, tupled,
                           w1, weak)
from tests.test_books import is_index

FIRST = [([("label", "ann"), ("cipher", "bob")], 0)]
SECOND = [([("cipher", "bob"), ("label", "ann")], 0)]


def is_right(post, protocols, messages, thing):
    """What is_answer is to tell of an answer of the right form."""
    rules = rules_of(post, protocols)
    if thing[0] == "safe":
        machine = thing[1]
        taken = all(plain.is_taken(machine, layers) for layers, _ in messages)
        return taken and all(plain.is_kept(machine, rule) for rule in rules) and not set(machine[1]) & set(machine[3])
    _, index, number, book, used = thing
    if not 0 <= index < len(messages) or not plain.is_book(rules, book) or not all(0 <= at < len(book) for at in used):
        return False
    return plain.is_way_through(book, used, messages[index][0], ()) and number == sum(plain.counts(book)[at] for at in used)


class TestExample(unittest.TestCase):
    def test_examples(self):
        told = answer_for(T, [G], FIRST)
        self.assertEqual(told[:3], ("bare", 0, 4))
        self.assertEqual([part.__class__ for part in told], [str, int, int, list, list])
        self.assertIs(is_answer(T, [G], FIRST, told), True)
        told = answer_for(T, [H], SECOND)
        self.assertEqual((told[0], len(told)), ("safe", 2))
        self.assertTrue(is_paper(rules_of(T, [H]), SECOND, told[1]))
        self.assertEqual(answer_for(P, [strong], first_messages(P, [strong], "ann", "bob", 7))[:3], ("bare", 0, 13))
        self.assertEqual(answer_for(P, [tight], first_messages(P, [tight], "ann", "bob", 7))[0], "safe")

    def test_edges(self):
        self.assertEqual(answer_for(T, [], [])[0], "safe")
        self.assertEqual(answer_for(T, [G], [([], 5)]), ("bare", 0, 0, [], []))
        self.assertEqual(answer_for(T, [G], FIRST + [([], 5)] + [([], 6)]), ("bare", 1, 0, [], []))
        self.assertEqual(answer_for(T, [], [([("cipher", "ann")], 1)])[0], "safe")
        self.assertEqual(answer_for(T, [], [([("label", "ann")], 1), ([w1], 2)])[:3], ("bare", 0, 1))
        self.assertEqual(answer_for(P, [weak], [([("cipher", "ann")] * 2, 1), ([("cipher", "bob")], 1), ([("cipher", "ann")], 1)])[:3],
                         ("bare", 1, 2))
        self.assertIs(is_answer(T, [], [], ("bare", 0, 0, [], [])), False)
        self.assertIs(is_answer(T, [], [], ("safe", (1, [], [], []))), True)
        self.assertIs(is_answer(T, [], [], ("safe", (1, [], [], [0]))), True)
        self.assertIs(is_answer(T, [], [], ("safe", (1, [0], [], [0]))), False)


class TestJustOne(unittest.TestCase):
    def test_told_in_all_ways(self):
        words = {"bare": 0, "safe": 0}
        for chance in plain.chances(150):
            post, protocols, messages = random_question(chance)
            self.agree(post, protocols, messages, words)
        self.assertGreater(min(words.values()), 40)

    def agree(self, post, protocols, messages, words):
        told = answer_for(post, protocols, messages)
        words[told[0]] += 1
        rules = rules_of(post, protocols)
        self.assertTrue(is_answer(post, protocols, messages, told))
        self.assertTrue(is_answer(post, protocols, messages, listed(told)))
        self.assertTrue(is_right(post, protocols, messages, told))
        text = audit_text(post, protocols, messages, told)
        self.assertEqual(audited(text), (post, protocols, messages, told))
        held = grown(rules, machine_of(messages))
        numbers = [down(rules, layers) for layers, _ in messages]
        if told[0] == "safe":
            self.assertIsNone(fewest(post, protocols, messages))
            self.assertIsNone(fewest_moves(rules, messages, []))
            self.assertIsNone(attack_of(post, protocols, messages, 10))
            self.assertIsNone(judged_never(rules, messages, [], never(rules, messages, [])))
            self.assertEqual(set(numbers) | {None}, {None})
            self.assertIsNone(judged_paper(rules, messages, told[1]))
            self.assertFalse(is_taken(held, []))
            mine = set(post.agents()) | set(range(10))
            self.assertTrue(all(layer[1] in mine for _, layer, _ in told[1][2]))
            self.assertFalse(() in plain.comings(rules, [layers for layers, _ in messages], 4, 3))
            return
        _, index, number, book, used = told
        self.assertEqual(fewest(post, protocols, messages), (number, index))
        self.assertEqual(fewest_moves(rules, messages, []), number)
        self.assertEqual((numbers[index], numbers.index(number)), (number, index))
        self.assertEqual(number, min(other for other in numbers if other is not None))
        self.assertIsNone(never(rules, messages, []))
        self.assertTrue(is_taken(held, []))
        self.assertFalse(is_paper(rules, messages, held))
        at, moves = attack_of(post, protocols, messages, number)
        self.assertEqual((at, len(moves)), (index, number))
        self.assertIsNone(judged_attack(post, protocols, messages, (at, moves)))
        again, rows = book_down(rules, messages[index][0])
        self.assertEqual(sum(counts(again)[row] for row in rows), number)

    def test_never_both(self):
        for chance in plain.chances(60):
            post, protocols, messages = random_question(chance)
            told = answer_for(post, protocols, messages)
            for _ in range(5):
                other = random_question(chance)
                if other[0].agents() == post.agents():
                    its = answer_for(*other)
                    if its[0] != told[0]:
                        self.assertFalse(is_answer(post, protocols, messages, its))


class TestJudged(unittest.TestCase):
    def test_bent_at_any_place(self):
        others = [0, 1, 2, -1, w1, ("label", "ann"), "safe", "bare", None, True, 10 ** 30]
        kinds = {}
        for chance in plain.chances(60):
            post, protocols, messages = random_question(chance)
            told = answer_for(post, protocols, messages)
            stride = 5 if told[0] == "bare" else 17
            for thing in list(plain.bent(told, others))[chance.randint(0, stride - 1)::stride]:
                right = is_answer(post, protocols, messages, thing)
                self.assertIs(right, has_form(thing) and is_right(post, protocols, messages, thing), thing)
                kinds[told[0], right] = kinds.get((told[0], right), 0) + 1
        self.assertGreater(min(kinds["bare", False], kinds["safe", False]), 300)
        self.assertGreater(kinds["safe", True], 20)

    def test_any_object(self):
        bare, safe = answer_for(T, [G], FIRST), answer_for(T, [H], SECOND)
        for thing in things():
            for protocols, messages, told in (([G], FIRST, bare), ([H], SECOND, safe)):
                self.assertIs(is_answer(T, protocols, messages, thing), False)
                for at in range(len(told)):
                    row = list(told)
                    row[at] = thing
                    self.assertIs(is_answer(T, protocols, messages, row), False)
            row = list(bare[3])
            row[2] = thing
            self.assertIs(is_answer(T, [G], FIRST, bare[:3] + (row, bare[4])), False)
            self.assertIs(is_answer(T, [G], FIRST, bare[:4] + ([0, thing],)), False)
        self.assertIs(is_answer(T, [G], FIRST, deep()), False)
        self.assertIs(is_answer(T, [G], FIRST, ("safe", deep())), False)

    def test_edges(self):
        told = answer_for(T, [G], FIRST)
        _, index, number, book, used = told
        self.assertIs(is_answer(T, [G], FIRST * 2, ("bare", 1, number, book, used)), True)
        self.assertIs(is_answer(T, [G], FIRST * 2, ("bare", 2, number, book, used)), False)
        self.assertIs(is_answer(T, [G], FIRST * 2, ("bare", False, number, book, used)), False)
        self.assertIs(is_answer(T, [G], FIRST, ("bare", 0, number + 1, book, used)), False)
        self.assertIs(is_answer(T, [G], FIRST, ("bare", 0, number, book, used[:-1])), False)
        self.assertIs(is_answer(T, [G], FIRST, ("bare", 0, number, book, [used[0], 99])), False)
        self.assertIs(is_answer(T, [G], FIRST, ["bare", 0, number, tupled(book), tuple(used)]), True)
        self.assertIs(is_answer(T, [G], FIRST, ("bare", 0, number, book)), False)
        self.assertIs(is_answer(T, [G], FIRST, told + (0,)), False)
        self.assertIs(is_answer(T, [G], FIRST, ("Bare", 0, number, book, used)), False)
        self.assertIs(is_answer(T, [G], FIRST, (["bare"], 0, number, book, used)), False)

    def test_more_deeds_than_the_fewest_are_right(self):
        rules = rules_of(T, [])
        put, take = rules.index(([], [w1], ("put", w1))), rules.index(([w1], [], ("take", w1)))
        longer = [(((), w1, ()), take, []), (((), w1, ()), put, [0, 0]), (((), w1, ()), put, [0, 1])]
        for at, number in ((0, 1), (1, 3), (2, 5)):
            self.assertIs(is_answer(T, [], [([w1], 0)], ("bare", 0, number, longer, [at])), True)

    def test_a_paper_with_other_agents(self):
        machine = answer_for(T, [H], SECOND)[1]
        row = (0, ("label", "zoe"), 0)
        other = (machine[0], machine[1], sorted(machine[2] + [row]), machine[3])
        self.assertIs(is_answer(T, [H], SECOND, ("safe", other)), True)


def has_form(thing):
    """Whether something nested is an answer by its form."""
    if not isinstance(thing, tuple) or not thing or not isinstance(thing[0], str):
        return False
    if thing[0] == "safe":
        return len(thing) == 2 and is_machine(thing[1])
    if thing[0] != "bare" or len(thing) != 5 or not is_index(thing[1]) or not is_index(thing[2]):
        return False
    try:
        counts(thing[3])
    except ValueError:
        return False
    return isinstance(thing[4], (list, tuple)) and all(map(is_index, thing[4]))


class TestMore(unittest.TestCase):
    def test_edges(self):
        question = (T, [G], FIRST)
        self.assertIs(is_more(T, [G], FIRST, question), True)
        self.assertIs(is_more(T, [G], FIRST, list(question)), True)
        self.assertIs(is_more(T, [G, H], FIRST + SECOND, question), True)
        self.assertIs(is_more(T, [G], FIRST, (T, [G, H], FIRST)), False)
        self.assertIs(is_more(T, [G], FIRST, (T, [G], FIRST + SECOND)), False)
        self.assertIs(is_more(T, [G], [(FIRST[0][0], 1)], question), False)
        self.assertIs(is_more(T, [G], FIRST, (T, [G], FIRST * 3)), True)
        self.assertIs(is_more(T, [G], SECOND + FIRST, (T, (G,), tupled(FIRST))), True)
        self.assertIs(is_more(T, [], [], (T, [], [])), True)
        more = Post(["ann", "bob", "cid", "eve"], [("cipher", "eve"), ("seal", "eve"), ("seal", "ann")])
        self.assertIs(is_more(more, [G], FIRST, question), True)
        self.assertIs(is_more(T, [G], FIRST, (more, [G], FIRST)), False)

    def test_rules_by_what_they_take_and_put(self):
        other = read_protocol("protocol other { 0 takes nothing puts nothing ; 1 takes label 0 , cipher 1 puts cipher 0 ; }")
        first = read_protocol("protocol first { 0 takes nothing puts word 1 ; 1 takes label 0 puts nothing ; }")
        self.assertIs(is_more(T, [other], FIRST, (T, [G], FIRST)), True)
        self.assertIs(is_more(T, [G], FIRST, (T, [other], FIRST)), True)
        self.assertIs(is_more(T, [], FIRST, (T, [first], FIRST)), True)

    def test_by_rules(self):
        seen = {True: 0, False: 0}
        for chance in plain.chances(300):
            mine, its = random_question(chance), random_question(chance)
            if chance.random() < 0.7:
                its = (mine[0] if chance.random() < 0.7 else its[0], mine[1][1:], mine[2][:1])
                if not all(layer[1] in its[0].agents() or layer[0] == "word" for layers, _ in its[2] for layer in layers):
                    continue
            told = is_more(*mine, its)
            own = [rule[:2] for rule in rules_of(*mine[:2])]
            due = all(message in mine[2] for message in its[2]) and all(rule[:2] in own for rule in rules_of(*its[:2]))
            self.assertIs(told, due)
            seen[told] += 1
            if told:
                self.holds(mine, its)
        self.assertGreater(min(seen.values()), 60)

    def holds(self, more, less):
        answer = answer_for(*less)
        if answer[0] == "bare":
            its, own = rules_of(*less[:2]), rules_of(*more[:2])
            self.assertEqual(answer_for(*more)[0], "bare")
            self.assertLessEqual(answer_for(*more)[2], answer[2])
            at = more[2].index(less[2][answer[1]])
            places = [[rule[:2] for rule in own].index(other[:2]) for other in its]
            book = [(drop, rule if rule is None else places[rule], used) for drop, rule, used in answer[3]]
            self.assertTrue(is_answer(*more, ("bare", at, answer[2], book, answer[4])))
        paper = answer_for(*more)
        if paper[0] == "safe":
            self.assertTrue(is_answer(*less, paper))

    def test_refused(self):
        for wrong in [(T, [G]), (T, [G], FIRST, 0), (G, [G], FIRST), (T, G, FIRST), (T, [G, G], FIRST), (T, [G], None),
                      (T, [G], [([("label", "zoe")], 0)]), (P, [None], []), "abc"] + things():
            with self.assertRaises(BadOther) as caught:
                is_more(T, [G], FIRST, wrong)
            self.assertIs(caught.exception.other, wrong)
        with self.assertRaises(BadMessages):
            is_more(T, [G], [([("label", "zoe")], 0)], None)


class TestLimits(unittest.TestCase):
    def test_six_agents_four_protocols_eight_messages(self):
        post = Post(AGENTS[:6], [("cipher", "fay"), ("seal", "fay")])
        words = set()
        begin = time.time()
        for seed in range(24):
            chance = random.Random(seed)
            protocols = [random_protocol(chance, name) for name in ("one", "two", "tri", "four")]
            protocols = protocols if seed % 2 else [tight, H, Proto("odd", strong.steps()[:1] + H.steps()[1:])]
            messages = [([chance.choice([("cipher", agent) for agent in AGENTS[:5]] + [("label", "ann")]) for _ in range(6)], 10 ** 12)
                        for _ in range(8)]
            told = answer_for(post, protocols, messages)
            words.add(told[0])
            self.assertTrue(is_answer(post, protocols, messages, told))
            self.assertEqual(audited(audit_text(post, protocols, messages, told))[3], told)
            self.assertTrue(is_more(post, protocols, messages, (post, protocols[1:], messages[2:])))
        self.assertEqual(words, {"bare", "safe"})
        self.assertLess(time.time() - begin, 30)

    def test_great_numbers(self):
        steps = [(0, [], [("word", 0)])]
        steps += [(1, [("cipher", 1), ("word", at)], [("cipher", 1), ("word", at + 1)] * 3) for at in range(7)]
        chain = Proto("chain", steps)
        more = Proto("more", [(0, [], []), (1, [("cipher", 1), ("word", 7)], [])])
        messages = [([("cipher", "ann"), ("word", 0)], 0)]
        told = answer_for(T, [chain, more], messages)
        self.assertEqual(told[:3], ("bare", 0, sum(3 ** at for at in range(8))))
        self.assertEqual(audited(audit_text(T, [chain, more], messages, told))[3], told)


if __name__ == "__main__":
    unittest.main()

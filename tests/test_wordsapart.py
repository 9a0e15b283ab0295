"""Words apart: [15.4], and what [15.7] says of it."""

import random
import unittest

from roadheld.answers import answer_for
from roadheld.attacks import attack_of, judged_attack
from roadheld.errors import BadProtocols
from roadheld.papers import is_paper
from roadheld.protocols import Proto, read_protocol, words_apart
from roadheld.refusals import BadAttack, BadPaper, Crowded
from roadheld.rules import first_messages, rules_of
from roadheld.wordsapart import attack_unparted, paper_parted, parted
from tests import plain
from tests.calls import NO_MACHINES
from tests.samples import G, H, P, listed, strong, things, tupled, w1, w2, w3

MARK = read_protocol("protocol mark { 0 takes nothing puts cipher 1 , cipher 0 ; 1 takes cipher 1 puts cipher 1 , word 0 ; }")
PEEL = read_protocol("protocol peel { 0 takes nothing puts cipher 0 , label 1 , label 1 ; 1 takes cipher 1 , word 0 puts nothing ; }")
MANY = Proto("many", [(0, [], [("word", at) for at in (9, 3, 5, 3, 7)])])
SIX = Proto("six", [(0, [], [("word", at) for at in (6, 1, 2, 3, 4, 5)])])


def falls(protocols):
    return answer_for(P, protocols, first_messages(P, protocols, "ann", "bob", 7))[0] == "bare"


def random_worded(chance, name):
    """A protocol by chance with some words."""
    letters = [w1, w2, w3, ("word", 0), ("cipher", 1), ("cipher", 0)]
    steps = [(0, [], [chance.choice(letters) for _ in range(chance.randint(1, 3))])]
    for at in range(1, chance.randint(2, 3)):
        part = at % 2
        takes = [letter for letter in letters if letter != ("cipher", 1 - part)] + [("cipher", part)]
        steps.append((part, [chance.choice(takes) for _ in range(chance.randint(1, 2))],
                      [chance.choice(letters) for _ in range(chance.randint(0, 2))]))
    return Proto(name, steps)


class TestExample(unittest.TestCase):
    def test_mark_and_peel(self):
        mark, peel = parted([MARK, PEEL])
        self.assertTrue(mark == MARK)
        self.assertEqual(peel.steps()[1][1], [("cipher", 1), ("word", 1)])
        self.assertFalse(falls([MARK]))
        self.assertFalse(falls([PEEL]))
        self.assertTrue(falls([MARK, PEEL]))
        self.assertFalse(falls([mark, peel]))


class TestParted(unittest.TestCase):
    def test_in_order(self):
        told = parted([MARK, MANY, G, PEEL])
        self.assertEqual([protocol.name() for protocol in told], ["mark", "many", "greet", "peel"])
        self.assertEqual(told[1].steps()[0][2], [("word", at) for at in (4, 1, 2, 1, 3)])
        self.assertTrue(told[2] == G)
        self.assertEqual(told[3].steps()[1][1], [("cipher", 1), ("word", 5)])
        self.assertEqual(parted([]), [])
        self.assertEqual(parted((G, H)), [G, H])
        self.assertEqual([words_apart(one, other) for one, other in zip((MARK, MANY, PEEL), parted([MARK, MANY, PEEL]))],
                         [{0: 0}, {3: 1, 5: 2, 7: 3, 9: 4}, {0: 5}])

    def test_crowded(self):
        self.assertEqual(len(parted([SIX, MANY])), 2)
        for protocols, many in (([SIX, MANY, MARK], 11), ([SIX, Proto("two", SIX.steps())], 12), ([SIX, MANY, MARK, PEEL], 12)):
            for function, more in ((parted, ()), (attack_unparted, (None,)), (paper_parted, (None,))):
                with self.assertRaises(Crowded) as caught:
                    function(protocols, *more)
                self.assertEqual(caught.exception.many, many)
        for function, more in ((parted, ()), (attack_unparted, (None,)), (paper_parted, (None,))):
            with self.assertRaises(BadProtocols):
                function([SIX, MANY, SIX], *more)

    def test_what_falls_when_parted_falls(self):
        seen = 0
        for chance in plain.chances(300):
            protocols = [random_worded(chance, name) for name in ("one", "two", "tri")[:chance.randint(1, 3)]]
            try:
                apart = parted(protocols)
            except Crowded as crowded:
                self.assertGreater(crowded.many, 10)
                continue
            messages, others = (first_messages(P, row, "ann", "bob", 7) for row in (apart, protocols))
            told = attack_of(P, apart, messages, 60)
            if told is not None and told[0] != "long":
                self.assertIsNone(judged_attack(P, protocols, others, attack_unparted(protocols, told)))
                self.assertEqual(attack_unparted(protocols, listed(told)), attack_unparted(protocols, tupled(told)))
            paper = answer_for(P, protocols, others)
            if paper[0] == "safe":
                self.assertEqual(answer_for(P, apart, messages)[0], "safe")
                self.assertTrue(is_paper(rules_of(P, apart), messages, paper_parted(protocols, paper[1])))
                seen += apart != protocols
        self.assertGreater(seen, 20)


class TestUnparted(unittest.TestCase):
    def test_words_are_called_as_they_were(self):
        moves = [("put", ("word", at)) for at in range(10)] + [("take", ("word", 4)), ("take", ("label", "zoe"))]
        answers = [("answer", "mark", "ann", "ann", 0), ("answer", "other", "zoe", "yan", 10 ** 30)]
        told = attack_unparted([MARK, MANY, PEEL], (7, moves + answers))
        old = [0, 3, 5, 7, 9, 0, 6, 7, 8, 9]
        self.assertEqual(told, (7, [("put", ("word", number)) for number in old] + [("take", ("word", 9)), ("take", ("label", "zoe"))] + answers))
        self.assertEqual(attack_unparted([], (10 ** 40, [])), (10 ** 40, []))
        told = attack_unparted([MANY], [0, [["take", ["word", 0]], ["answer", "many", "ann", "bob", 1]]])
        self.assertEqual([part.__class__ for part in (told, told[1], told[1][0], told[1][0][1], told[1][1])], [tuple, list, tuple, tuple, tuple])

    def test_refused(self):
        for wrong in [(0,), (0, [], 0), (-1, []), (True, []), (0, None), (0, "ab"), (0, [("put",)]), (0, [("put", ("word", 10))]),
                      (0, [("own", 1)]), (0, [("take", w1, 0)]), (0, [("answer", "mark", "ann", "bob")]), (0, [("answer", 5, "ann", "bob", 1)]),
                      (0, [("answer", "mark", "Ann", "bob", 1)]), (0, [("answer", "mark", "ann", "cipher", 1)]), (0, [("answer", "mark", "ann", "bob", -1)]),
                      (0, [("answer", "mark", "ann", "bob", True)]), (0, [("begin", "mark", "ann", "bob", 1)]), (0, [None]), (0, [[]])] + things():
            with self.assertRaises(BadAttack) as caught:
                attack_unparted([MARK, PEEL], wrong)
            self.assertIs(caught.exception.attack, wrong)
        for thing in things():
            for wrong in ((0, [thing]), (0, [("put", thing)]), (0, [("answer", "mark", "ann", thing, 1)]), (0, [(thing, w1)])):
                with self.assertRaises(BadAttack):
                    attack_unparted([MARK], wrong)
        with self.assertRaises(BadProtocols):
            attack_unparted([MARK, MARK], None)


class TestPapers(unittest.TestCase):
    def test_rows(self):
        machine = (3, [0], [(0, ("label", "zoe"), 1), (0, ("word", 0), 1), (0, ("word", 3), 2), (1, ("word", 1), 2), (1, ("word", 8), 0)], [2])
        # The words 0 to 5 were called 0, 3, 5, 7, 9, 0; those from 6 on stay.
        self.assertEqual(paper_parted([MARK, MANY, PEEL], machine),
                         (3, [0], [(0, ("label", "zoe"), 1), (0, ("word", 0), 1), (0, ("word", 1), 2), (0, ("word", 5), 1),
                                   (1, ("word", 8), 0)], [2]))
        self.assertEqual(paper_parted([], machine), machine)
        self.assertEqual(paper_parted([strong], listed(machine)), machine)

    def test_by_rows(self):
        for seed in range(60):
            chance = random.Random(seed)
            machine = plain.random_machine(chance, [("word", at) for at in range(10)] + [("label", "ann")], 3, 25)
            old = [0, 3, 5, 7, 9, 0, 6, 7, 8, 9]
            rows = [(s, ("word", at), t) for s in range(3) for at in range(10) for t in range(3) if (s, ("word", old[at]), t) in machine[2]]
            rows += [row for row in machine[2] if row[1][0] == "label"]
            self.assertEqual(paper_parted([MARK, MANY, PEEL], machine), (3, machine[1], sorted(rows), machine[3]))

    def test_refused(self):
        for wrong in NO_MACHINES + things():
            with self.assertRaises(BadPaper) as caught:
                paper_parted([MARK], wrong)
            self.assertIs(caught.exception.paper, wrong)


if __name__ == "__main__":
    unittest.main()

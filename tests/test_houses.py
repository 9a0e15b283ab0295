"""Houses: [15.3], and what [15.7] says of them."""

import random
import time
import unittest

from roadheld.agents import Post
from roadheld.answers import answer_for
from roadheld.errors import BadOne, BadPost, BadProtocols, BadZero
from roadheld.exchange import fewer
from roadheld.houses import fewest_houses, judged_houses
from roadheld.protocollots import falls, least_falling
from roadheld.protocols import Proto
from roadheld.rules import first_messages
from tests import plain
from tests.samples import AGENTS, Alike, M, Odd, P, deep, listed, things, tupled, weak
from tests.test_protocollots import random_together
from tests.test_wordsapart import MARK, PEEL

BOTH = [MARK, PEEL]


def partings(names):
    """All ways to part names into lists, ascending ones in an ascending list."""
    if not names:
        return [[]]
    told = []
    for rest in partings(names[1:]):
        told.append(sorted([[names[0]]] + rest))
        for at in range(len(rest)):
            told.append(sorted(rest[:at] + [sorted([names[0]] + rest[at])] + rest[at + 1:]))
    return told


def paper_of(post, protocols, names, zero="ann", one="bob"):
    """A paper of the messages of some protocols; None if they fall."""
    its = [protocol for protocol in protocols if protocol.name() in names]
    answer = answer_for(post, its, first_messages(post, its, zero, one, 0))
    return answer[1] if answer[0] == "safe" else None


def housed(post, protocols, rows):
    return [(names, paper_of(post, protocols, names)) for names in rows]


class TestExample(unittest.TestCase):
    def test_mark_and_peel(self):
        self.assertEqual(fewest_houses(P, BOTH, "ann", "bob"), [["mark"], ["peel"]])
        self.assertIsNone(judged_houses(P, BOTH, "ann", "bob", housed(P, BOTH, [["mark"], ["peel"]])))


class TestFewest(unittest.TestCase):
    def test_by_trying(self):
        seen = set()
        for seed in range(200):
            chance = random.Random(seed)
            protocols = random_together(chance, 4)
            zero, one = chance.sample(P.agents(), 2)
            names = sorted(protocol.name() for protocol in protocols)
            least = least_falling(P, protocols, zero, one)
            right = [rows for rows in partings(names) if not any(
                falls(P, protocols, zero, one, row) for row in rows)]
            # A list of lists is a housing just if no least falling list lies in one house.
            self.assertEqual(right, [rows for rows in partings(names) if not any(
                set(part) <= set(row) for part in least for row in rows)])
            due = min([(len(rows), rows) for rows in right])[1] if right else None
            self.assertEqual(fewest_houses(P, protocols, zero, one), due)
            seen.add(None if due is None else len(due))
        self.assertLessEqual({None, 1, 2}, seen)

    def test_edges(self):
        self.assertEqual(fewest_houses(P, [], "ann", "bob"), [])
        self.assertIsNone(fewest_houses(P, [weak, MARK], "ann", "bob"))
        self.assertEqual(fewest_houses(P, [PEEL], "ann", "bob"), [["peel"]])
        self.assertIsNone(judged_houses(P, [], "ann", "bob", []))
        self.assertEqual(judged_houses(P, [], "ann", "bob", [([], M)]), ("form",))

    def test_fewer_agents(self):
        # What parts protocols into houses stands with fewer agents, too.
        parted = 0
        post = Post(["ann", "bob", "cid", "eve"], [("cipher", "eve"), ("seal", "eve"), ("cipher", "cid")])
        for seed in range(100):
            protocols = random_together(random.Random(seed), 3)
            rows = fewest_houses(post, protocols, "ann", "bob")
            small = fewer(post, ["ann", "bob"], "eve")
            self.assertEqual(fewest_houses(small, protocols, "ann", "bob"), rows)
            if rows is not None:
                parted += len(rows) > 1
                self.assertIsNone(judged_houses(post, protocols, "ann", "bob", housed(post, protocols, rows)))
                self.assertIsNone(judged_houses(small, protocols, "ann", "bob", housed(post, protocols, rows)))
        self.assertGreater(parted, 0)


class TestJudged(unittest.TestCase):
    def judge(self, thing):
        return judged_houses(P, BOTH, "ann", "bob", thing)

    def setUp(self):
        self.mark, self.peel = paper_of(P, BOTH, ["mark"]), paper_of(P, BOTH, ["peel"])

    def test_by_hand(self):
        mark, peel = (["mark"], self.mark), (["peel"], self.peel)
        for right in ([mark, peel], [peel, mark], (tupled(peel), listed(mark))):
            self.assertIsNone(self.judge(right))
        for wrong in ([mark, (["peel"],)], [mark, (["peel"], self.peel, 0)], [mark, ([], self.peel)], [mark, (["peel", "peel"], self.peel)],
                      [mark, (["zoe"], self.peel)], [mark, ("peel", self.peel)], [mark, None], None, {}, "", 5, [mark, (["peel", None], 0)],
                      [mark, ([Alike()], 0)], [(["mark", "zoe"], None)]):
            self.assertEqual(self.judge(wrong), ("form",))
        self.assertEqual(self.judge([mark]), ("name", "peel"))
        self.assertEqual(self.judge([]), ("name", "mark"))
        self.assertEqual(self.judge([peel, peel, (["mark"], None)]), ("name", "peel"))
        self.assertEqual(self.judge([mark, (["peel", "mark"], None)]), ("name", "mark"))
        self.assertEqual(self.judge([(["peel", "mark"], self.peel)]), ("paper", 0))
        self.assertEqual(self.judge([mark, (["peel"], self.mark)]), ("paper", 1))
        self.assertEqual(self.judge([(["peel"], Odd()), (["mark"], None)]), ("paper", 0))

    def test_any_object(self):
        for thing in things() + [deep(), [deep()], Odd(), [Odd()]]:
            told = self.judge(thing)
            self.assertEqual(told, ("form",))
            self.assertEqual(self.judge([(["mark"], thing), (["peel"], self.peel)]), ("paper", 0))
        for thing in plain.bent([(["mark"], 0), (["peel"], self.peel)], ["mark", "peel", "zoe", None, 0]):
            self.assertIsNotNone(self.judge(thing))

    def test_by_trying(self):
        for seed in range(60):
            chance = random.Random(seed)
            protocols = random_together(chance, 3)
            names = sorted(protocol.name() for protocol in protocols)
            for rows in partings(names):
                thing = housed(P, protocols, [chance.sample(row, len(row)) for row in rows])
                wrong = [at for at, (row, paper) in enumerate(thing) if paper is None]
                told = judged_houses(P, protocols, "ann", "bob", thing)
                self.assertEqual(told, ("paper", wrong[0]) if wrong else None)

    def test_other_pairs(self):
        # The papers are of the messages of just these two agents.
        thing = housed(P, BOTH, [["mark"], ["peel"]])
        self.assertEqual(judged_houses(P, BOTH, "ann", "eve", thing), ("paper", 0))


class TestWrong(unittest.TestCase):
    def test_each(self):
        for call in (fewest_houses, lambda *told: judged_houses(*told, [])):
            for thing in things() + ["zoe"]:
                with self.assertRaises(BadPost):
                    call(thing, thing, thing, thing)
                with self.assertRaises(BadProtocols):
                    call(P, [thing], thing, thing)
                with self.assertRaises(BadZero):
                    call(P, BOTH, thing, thing)
                with self.assertRaises(BadOne) as caught:
                    call(P, BOTH, "ann", thing)
                self.assertIs(caught.exception.one, thing)
            with self.assertRaises(BadOne):
                call(P, BOTH, "bob", "bob")

    def test_told_lists(self):
        told = fewest_houses(post=P, protocols=(PEEL, MARK), zero="ann", one="bob")
        told[0].clear()
        self.assertEqual(fewest_houses(P, [PEEL, MARK], "ann", "bob"), [["mark"], ["peel"]])

    def test_limits(self):
        begin = time.time()
        chance = random.Random(5)
        post = Post(AGENTS[:5], [("cipher", "eve"), ("seal", "eve")])
        for _ in range(5):
            protocols = [Proto(name, protocol.steps()) for name in ("a", "b", "c", "d", "e")
                         for protocol in random_together(chance, 1)][:5]
            rows = fewest_houses(post, protocols, "ann", "bob")
            if rows is not None:
                self.assertIsNone(judged_houses(post, protocols, "ann", "bob", housed(post, protocols, rows)))
        self.assertLess(time.time() - begin, 15)


if __name__ == "__main__":
    unittest.main()

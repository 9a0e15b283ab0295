"""Standing, and mends that help: [16.4] to [16.8], and what [16.9] says of them."""

import itertools
import random
import time
import unittest

from roadheld.agents import Post
from roadheld.answers import answer_for
from roadheld.attacks import attack_of, judged_attack
from roadheld.books import is_book
from roadheld.errors import BadLayers, BadMany, BadMost, BadName, BadPost, BadProtocol, BadProtocols
from roadheld.mends import mended, mends
from roadheld.papers import is_paper
from roadheld.protocols import Proto
from roadheld.rules import first_messages, rules_of
from roadheld.standing import helping, is_fall, is_mend, least_lots, lots_of, shown_mend, stands
from tests import plain
from tests.samples import AGENTS, Alike, H, Odd, P, deep, listed, random_protocol, strong, things, tupled, weak
from tests.test_mends import going_protocol

L = [("label", 0), ("seal", 0), ("word", 1)]
MORE = Post(["ann", "bob", "cid", "dan", "eve"], [("cipher", "eve"), ("seal", "eve"), ("seal", "cid")])
NOBODY = Post(["ann", "bob", "eve"], [("cipher", "eve"), ("seal", "eve"), ("seal", "bob")])


def honest(post):
    return [agent for agent in post.agents() if agent not in [whose for _, whose in post.keyring()]]


def stands_slowly(post, protocols, name):
    """Whether the messages of all begins by honest agents are safe."""
    own = [protocol for protocol in protocols if protocol.name() == name]
    return all(answer_for(post, protocols, first_messages(post, own, one, other, 0))[0] == "safe"
               for one in honest(post) for other in honest(post) if one != other)


def with_lot(protocol, lot):
    for mend in lot:
        protocol = mended(protocol, mend)
    return protocol


def lots_slowly(protocol, layers, many):
    """All lots that count, by going through all lots."""
    told, made, lots = [], [], [([], protocol)]
    for _ in range(many + 1):
        for lot, other in sorted(lots, key=lambda pair: pair[0]):
            if other not in made:
                made.append(other)
                told.append(lot)
        lots = [(lot + [mend], mended(other, mend)) for lot, other in lots for mend in mends(other, layers)]
    return told


def replaced(protocols, name, protocol):
    return [protocol if other.name() == name else other for other in protocols]


class TestExample(unittest.TestCase):
    def test_words_of_the_example(self):
        self.assertEqual(helping(P, [weak], "weak", L), [("add", 0, 1, ("label", 0)), ("add", 0, 1, ("seal", 0))])
        self.assertEqual(helping(P, [strong], "strong", L),
                         [("add", 0, 3, ("label", 0)), ("add", 0, 3, ("seal", 0)), ("add", 0, 3, ("word", 1)), ("shift", 0, 1, 2)])
        messages = first_messages(P, [strong], "ann", "bob", 7)
        self.assertEqual(attack_of(P, [strong], messages, 12), ("long", 13))
        lots = lots_of(weak, [("label", 1)], 2)
        self.assertEqual(len(lots), 15)
        self.assertFalse([lot for lot in lots if stands(P, [with_lot(weak, lot)], "weak")])
        self.assertEqual(least_lots(P, [weak], "weak", [("label", 1)], 2), [])
        self.assertEqual(least_lots(P, [weak], "weak", [("cipher", 1), ("label", 0)], 2),
                         [[("add", 0, 1, ("label", 0))], [("add", 1, 0, ("cipher", 1))], [("add", 1, 1, ("cipher", 1))]])


class TestStands(unittest.TestCase):
    def test_by_answers(self):
        seen = set()
        for seed in range(150):
            chance = random.Random(seed)
            protocols = [random_protocol(chance, name) for name in ("one", "two")[:chance.randint(1, 2)]]
            for post in (P, MORE, NOBODY):
                told = stands(post, protocols, "one")
                self.assertIs(told, stands_slowly(post, protocols, "one"))
                # All honest agents are alike.
                own = protocols[:1]
                words = {answer_for(post, protocols, first_messages(post, own, one, other, 0))[0]
                         for one in honest(post) for other in honest(post) if one != other}
                self.assertLessEqual(len(words), 1)
                seen.add((told, len(honest(post))))
        self.assertLessEqual({(True, 2), (False, 2), (True, 3), (False, 3), (True, 1)}, seen)

    def test_only_its_own_begin(self):
        self.assertIs(stands(P, [H, weak], "hide"), False)
        self.assertIs(stands(P, [H], "hide"), True)
        bare = Proto("bare", [(0, [], [])])
        self.assertIs(stands(P, [H, bare], "hide"), True)
        self.assertIs(stands(P, [H, bare], "bare"), False)
        self.assertIs(stands(NOBODY, [bare], "bare"), True)


class TestHelping(unittest.TestCase):
    def test_by_trying(self):
        helped = 0
        for seed in range(60):
            chance = random.Random(seed)
            protocols = [going_protocol(chance, "one", 3, 2), random_protocol(chance, "two")][:chance.randint(1, 2)]
            layers = chance.sample(L + [("cipher", 1)], 2)
            told = helping(P, protocols, "one", layers)
            due = [mend for mend in mends(protocols[0], layers)
                   if stands_slowly(P, replaced(protocols, "one", mended(protocols[0], mend)), "one")]
            self.assertEqual(told, due)
            helped += bool(told) and not stands(P, protocols, "one")
        self.assertGreater(helped, 3)

    def test_touched(self):
        # Moves stay an attack if a mend touches neither the first step nor one that they answer.
        kept = 0
        for seed in range(200):
            chance = random.Random(seed)
            protocol = random_protocol(chance, "one", 5)
            messages = first_messages(P, [protocol], "ann", "bob", 0)
            attack = attack_of(P, [protocol], messages, 60)
            if attack is None or attack[0] == "long":
                continue
            answered = {move[4] for move in attack[1] if move[0] == "answer"}
            helps = helping(P, [protocol], "one", L)
            for mend in mends(protocol, L):
                if not {mend[1], mend[1] + 1} & (answered | {0}):
                    self.assertIsNone(judged_attack(P, [mended(protocol, mend)], messages, attack))
                    self.assertNotIn(mend, helps)
                    kept += 1
        self.assertGreater(kept, 50)


class TestLots(unittest.TestCase):
    def test_by_trying(self):
        for seed in range(30):
            chance = random.Random(seed)
            protocol = going_protocol(chance, "one", 3, 1)
            layers = chance.sample(L, chance.randint(0, 2))
            for many in range(3):
                self.assertEqual(lots_of(protocol, layers, many), lots_slowly(protocol, layers, many))
        self.assertEqual(lots_of(weak, L, 0), [[]])
        self.assertEqual(lots_of(weak, L, 1), [[]] + [[mend] for mend in mends(weak, L)])
        self.assertEqual(lots_of(Proto("none", [(0, [], [])]), [], 5), [[]])

    def test_least_by_trying(self):
        seen = set()
        for seed in range(60):
            chance = random.Random(seed)
            protocols = [going_protocol(chance, "one", 3, 1), random_protocol(chance, "two")][:chance.randint(1, 2)]
            layers = chance.sample(L + [("cipher", 1)], chance.randint(1, 2))
            most = chance.randint(0, 2)
            stand = [lot for lot in lots_of(protocols[0], layers, most)
                     if stands_slowly(P, replaced(protocols, "one", with_lot(protocols[0], lot)), "one")]
            due = [lot for lot in stand if len(lot) == min(map(len, stand))]
            self.assertEqual(least_lots(P, protocols, "one", layers, most), due)
            seen.add(len(due[0]) if due else None)
        self.assertLessEqual({None, 0, 1}, seen)
        self.assertEqual(least_lots(NOBODY, [weak], "weak", L, 2), [[]])

    def test_two_mends(self):
        told = least_lots(P, [weak], "weak", [("word", 1), ("label", 1)], 2)
        self.assertEqual(told, [])
        doubled = Proto("some", [(0, [], [("cipher", 1)]), (1, [("cipher", 1)], [("cipher", 0), ("word", 2)])])
        for lot in least_lots(P, [doubled], "some", [("label", 0)], 2):
            self.assertTrue(stands(P, [with_lot(doubled, lot)], "some"))


class TestShown(unittest.TestCase):
    def test_just_one(self):
        words = set()
        for seed in range(60):
            chance = random.Random(seed)
            protocols = [going_protocol(chance, "one", 3, 1), random_protocol(chance, "two")][:chance.randint(1, 2)]
            layers = chance.sample(L + [("cipher", 1)], 1)
            post = chance.choice([P, MORE, NOBODY])
            question = (post, protocols, "one", layers, 1)
            told = shown_mend(*question)
            words.add(told[0])
            self.assertIs(is_mend(*question, told), told[0] == "stands")
            self.assertIs(is_fall(*question, told), told[0] == "falls")
            least = least_lots(*question)
            self.assertEqual(told[0] == "stands", bool(least))
            if told[0] == "stands":
                self.assertEqual(told[1], least[0])
                self.check_paper(post, protocols, told[1], told[2])
            else:
                self.assertEqual([row[0] for row in told[1]], lots_of(protocols[0], layers, 1))
                for lot, book, used in told[1]:
                    its = replaced(protocols, "one", with_lot(protocols[0], lot))
                    begun = first_messages(post, [its[0]], *honest(post)[:2], 0)[0][0]
                    self.assertTrue(is_book(rules_of(post, its), book))
                    self.assertTrue(plain.is_way_through(book, used, begun, ()))
            self.assertEqual(shown_mend(*question), told)
        self.assertEqual(len(words), 2)

    def check_paper(self, post, protocols, lot, paper):
        if len(honest(post)) < 2:
            self.assertIsNone(paper)
            self.assertEqual(lot, [])
            return
        its = replaced(protocols, "one", with_lot(protocols[0], lot))
        self.assertTrue(is_paper(rules_of(post, its), first_messages(post, [its[0]], *honest(post)[:2], 0), paper))

    def test_any_lot_that_counts(self):
        layers = [("cipher", 1), ("label", 0)]
        question = (P, [weak], "weak", layers)
        stood = 0
        for lot in lots_of(weak, layers, 2):
            protocol = with_lot(weak, lot)
            answer = answer_for(P, [protocol], first_messages(P, [protocol], "ann", "bob", 0))
            if answer[0] == "safe":
                thing = ("stands", lot, answer[1])
                self.assertIs(is_mend(*question, 2, thing), True)
                self.assertIs(is_mend(*question, 2, listed(thing)), True)
                self.assertIs(is_mend(*question, 1, thing), len(lot) < 2)
                self.assertIs(is_mend(*question, 0, thing), False)
                self.assertIs(is_mend(P, [weak], "weak", layers[:1], 2, thing), ("label", 0) not in [mend[3] for mend in lot])
                stood += 1
        self.assertGreater(stood, 5)
        # Lots that make the same as another one ahead do not count, nor those that come back to where they were.
        _, lot, paper = shown_mend(*question, 1)
        twice = [("add", 0, 0, ("cipher", 1)), ("add", 0, 0, ("cipher", 1))]
        same = [("add", 0, 1, ("cipher", 1)), ("add", 0, 0, ("cipher", 1))]
        self.assertTrue(with_lot(weak, twice) == with_lot(weak, same))
        self.assertIs(is_mend(*question, 3, ("stands", lot + same[:1], paper)), False)
        self.assertIs(is_mend(*question, 3, ("stands", [], paper)), False)

    def test_bent(self):
        question = (P, [weak], "weak", [("label", 0)], 1)
        told = shown_mend(*question)
        for thing in plain.bent(told, [0, 1, None, True, "stands", ("word", 1), ("label", 0)]):
            if is_mend(*question, thing):
                protocol = with_lot(weak, thing[1])
                self.assertTrue(is_paper(rules_of(P, [protocol]), first_messages(P, [protocol], "ann", "bob", 0), thing[2]))
            self.assertIs(is_fall(*question, thing), False)
        question = (P, [weak], "weak", [("label", 1)], 1)
        told = shown_mend(*question)
        lots = lots_of(weak, [("label", 1)], 1)
        right = 0
        for thing in itertools.islice(plain.bent(told, [0, 1, None, True, ("cipher", "bob"), ("label", 1)]), 4000):
            answer = is_fall(*question, thing)
            if answer:
                self.assertEqual([[tuple(mend) for mend in row[0]] for row in thing[1]], lots)
                for lot, book, used in thing[1]:
                    self.assertTrue(is_book(rules_of(P, [with_lot(weak, lot)]), book))
                right += 1
            self.assertIs(is_mend(*question, thing), False)
        self.assertLess(right, 1000)
        self.assertIs(is_fall(*question, ("falls", told[1][:-1])), False)
        self.assertIs(is_fall(*question, ("falls", told[1] + told[1][:1])), False)
        self.assertIs(is_fall(*question, ("falls", told[1][::-1])), False)
        self.assertIs(is_fall(*question, ["falls", listed(told[1])]), True)

    def test_nobody(self):
        question = (NOBODY, [weak], "weak", L, 1)
        self.assertEqual(shown_mend(*question), ("stands", [], None))
        self.assertIs(is_mend(*question, ("stands", [], None)), True)
        self.assertIs(is_mend(*question, ("stands", [("add", 0, 1, ("label", 0))], None)), True)
        self.assertIs(is_mend(*question, ("stands", [], (1, [], [], []))), False)
        self.assertIs(is_fall(*question, ("falls", [])), False)
        self.assertIs(is_fall(*question, shown_mend(P, [weak], "weak", [("label", 1)], 1)), False)

    def test_any_object(self):
        question = (P, [weak], "weak", [("label", 0)], 1)
        for thing in things() + [deep(), ("stands", deep(), deep()), ("falls", deep()), ("falls", [Odd()]), ("falls", [([], Odd(), [])]),
                                 (Alike(), [], None), ("stands", [Alike()], None), ("stands", [], Odd()), ("falls", None), ("stands",), ["falls"]]:
            self.assertIs(is_mend(*question, thing), False)
            self.assertIs(is_fall(*question, thing), False)


class TestWrong(unittest.TestCase):
    calls = [lambda *told: stands(*told[:3]), lambda *told: helping(*told[:4]), least_lots, shown_mend, lambda *told: is_mend(*told, None),
             lambda *told: is_fall(*told, None)]

    def test_each(self):
        for call in self.calls:
            for thing in things():
                with self.assertRaises(BadPost):
                    call(thing, thing, thing, thing, thing)
                with self.assertRaises(BadProtocols):
                    call(P, [thing], thing, thing, thing)
                with self.assertRaises(BadName) as caught:
                    call(P, [weak], thing, thing, thing)
                self.assertIs(caught.exception.name, thing)
            with self.assertRaises(BadName):
                call(P, [weak], "zoe", [], 0)
        wrong = [[("label", 0), ("label", 0)], [("label", 2)], ("label", 0), [("label", "ann")], [Odd()], None, "ab"]
        for call in self.calls[1:] + [lambda *told: lots_of(weak, *told[3:])]:
            for layers in wrong:
                with self.assertRaises(BadLayers) as caught:
                    call(P, [weak], "weak", layers, layers)
                self.assertIs(caught.exception.layers, layers)
        for thing in things():
            for call in self.calls[2:]:
                with self.assertRaises(BadMost) as caught:
                    call(P, [weak], "weak", [], thing)
                self.assertIs(caught.exception.most, thing)
            with self.assertRaises(BadMany) as caught:
                lots_of(weak, [], thing)
            self.assertIs(caught.exception.many, thing)
            with self.assertRaises(BadProtocol):
                lots_of(thing, thing, thing)

    def test_lists_for_tuples(self):
        for kind in (listed, tupled):
            protocols, layers = kind([weak]), kind([("cipher", 1), ("label", 0)])
            self.assertIs(stands(post=P, protocols=protocols, name="weak"), False)
            self.assertEqual(len(helping(post=P, protocols=protocols, name="weak", layers=layers)), 3)
            self.assertEqual(len(lots_of(protocol=weak, layers=layers, many=1)), 1 + len(mends(weak, layers)))
            question = {"post": P, "protocols": protocols, "name": "weak", "layers": layers, "most": 2}
            self.assertEqual(len(least_lots(**question)), 3)
            told = shown_mend(**question)
            self.assertIs(is_mend(thing=kind(told), **question), True)
            self.assertIs(is_fall(thing=kind(told), **question), False)
        told = lots_of(weak, L, 1)
        for lot in told:
            lot.clear()
        self.assertEqual(lots_of(weak, L, 1)[1], [("add", 0, 0, ("label", 0))])

    def test_limits(self):
        begin = time.time()
        letters = [("cipher", 0), ("cipher", 1), ("label", 0), ("label", 1), ("seal", 0), ("seal", 1)] + [("word", at) for at in range(4)]
        post = Post(AGENTS[:6], [("cipher", "fay"), ("seal", "fay"), ("seal", "cid")])
        for seed in range(4):
            chance = random.Random(seed)
            protocols = [random_protocol(chance, name, 5) for name in ("one", "two", "three")]
            helping(post, protocols, "one", letters)
            layers = letters[seed:seed + 1]
            told = shown_mend(post, protocols, "one", layers, 2)
            self.assertIs(is_mend(post, protocols, "one", layers, 2, told), told[0] == "stands")
            self.assertIs(is_fall(post, protocols, "one", layers, 2, told), told[0] == "falls")
        self.assertLess(time.time() - begin, 30)


if __name__ == "__main__":
    unittest.main()

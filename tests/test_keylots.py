"""Keys given away: [14.1], [14.2], [14.4], [14.6], [14.7], with [14.8]."""

import random
import time
import unittest

from roadheld.agents import Post
from roadheld.answers import answer_for, is_answer
from roadheld.attacks import attack_of, fewest, judged_attack
from roadheld.charts import chart, judged_chart
from roadheld.errors import BadKeys, BadMessages, BadPost
from roadheld.keylots import cheapest, greatest_standing, least_breaking, turns, used_keys, with_keys
from roadheld.meetings import charted, meeting
from roadheld.protocols import read_protocol
from roadheld.refusals import BadAttack, BadLot, BadPrices
from roadheld.rules import first_messages
from tests import plain
from tests.samples import AGENTS, P, listed, random_protocol, random_question, strong, things, tight, tupled, w1, weak
from tests.test_answers import has_form
from tests.test_meetings import subsets

NEST = read_protocol("protocol nest { 0 takes nothing puts cipher 0 , cipher 1 ; 1 takes seal 1 , cipher 1 puts nothing ; }")
FOUR = [("cipher", "ann"), ("cipher", "bob"), ("seal", "ann"), ("seal", "bob")]
MESSAGES = first_messages(P, [NEST], "ann", "bob", 7)
LEAST = [[("cipher", "ann"), ("cipher", "bob")], [("cipher", "ann"), ("seal", "bob")], [("cipher", "bob"), ("seal", "ann")],
         [("seal", "ann"), ("seal", "bob")]]
GREATEST = [[("cipher", "ann"), ("seal", "ann")], [("cipher", "bob"), ("seal", "bob")]]


def breaks(question, lot):
    post, protocols, messages = question
    return fewest(Post(post.agents(), post.keyring() + list(lot)), protocols, messages) is not None


def key_question(chance):
    """A post, protocols and messages by chance, beneath several ciphers."""
    agents = AGENTS[:chance.randint(3, 4)]
    post = Post(agents, [("cipher", agents[-1]), ("seal", agents[-1])])
    protocols = [chance.choice([NEST, strong, tight, random_protocol(chance, "odd")])] if chance.random() < 0.7 else []
    ciphers = [("cipher", agent) for agent in agents]
    messages = [([chance.choice(ciphers) for _ in range(chance.randint(1, 4))], 0) for _ in range(chance.randint(1, 2))]
    return (post, protocols, messages)


def asked_keys(chance, post, most):
    """Some keys of a post that the adversary has not."""
    keys = [(kind, agent) for kind in ("cipher", "seal") for agent in post.agents() if (kind, agent) not in post.keyring()]
    return chance.sample(keys, min(len(keys), most))


class TestExample(unittest.TestCase):
    def test_lots(self):
        question = (P, [NEST], MESSAGES)
        self.assertEqual(least_breaking(*question, FOUR), LEAST)
        self.assertEqual(greatest_standing(*question, FOUR[::-1]), GREATEST)
        self.assertEqual(turns(*question, FOUR), [3, 3, 3, 3])
        self.assertEqual(cheapest(*question, FOUR, [1, 2, 3, 4]), (3, [("cipher", "ann"), ("cipher", "bob")]))
        told = least_breaking(*question, FOUR)
        self.assertEqual([part.__class__ for part in (told, told[0], told[0][0])], [list, list, tuple])

    def test_used_keys(self):
        attack = (0, [("put", ("seal", "ann")), ("answer", "nest", "ann", "bob", 1), ("put", ("seal", "bob")),
                      ("answer", "nest", "bob", "ann", 1)])
        post = with_keys(P, [("seal", "bob"), ("seal", "ann")])
        self.assertEqual(used_keys(post, [NEST], MESSAGES, attack), [("seal", "ann"), ("seal", "bob")])
        with self.assertRaises(BadAttack):
            used_keys(P, [NEST], MESSAGES, attack)


class TestWithKeys(unittest.TestCase):
    def test_edges(self):
        self.assertTrue(with_keys(P, []) == P)
        self.assertEqual(with_keys(P, [("seal", "bob"), ["cipher", "ann"]]).keyring(),
                         [("cipher", "ann"), ("cipher", "eve"), ("seal", "bob"), ("seal", "eve")])
        self.assertEqual(with_keys(P, tuple(FOUR)).agents(), P.agents())

    def test_refused(self):
        for wrong in ["", ("cipher", "ann"), [("cipher", "ann")] * 2, [("cipher", "eve")], [("cipher", "zoe")], [("label", "ann")], [w1],
                      [("cipher", "ann"), None], {("cipher", "ann"): 1}] + things():
            with self.assertRaises(BadLot) as caught:
                with_keys(P, wrong)
            self.assertIs(caught.exception.lot, wrong)
            with self.assertRaises(BadPost):
                with_keys(None, wrong)
            for function in (least_breaking, greatest_standing, turns, chart):
                with self.assertRaises(BadKeys) as caught:
                    function(P, [NEST], MESSAGES, wrong)
                self.assertIs(caught.exception.keyring, wrong)
            with self.assertRaises(BadKeys):
                cheapest(P, [NEST], MESSAGES, wrong, None)
            with self.assertRaises(BadKeys):
                judged_chart(P, [NEST], MESSAGES, wrong, None)
            with self.assertRaises(BadMessages):
                cheapest(P, [NEST], None, wrong, None)


class TestLots(unittest.TestCase):
    def test_by_all_lots_gone_through(self):
        lengths = set()
        for chance in plain.chances(60):
            question = key_question(chance) if chance.random() < 0.8 else random_question(chance)
            keys = asked_keys(chance, question[0], chance.randint(0, 5))
            broken = [set(lot) for lot in subsets(keys) if breaks(question, lot)]
            stand = [set(lot) for lot in subsets(keys) if set(lot) not in broken]
            least = sorted(sorted(lot) for lot in broken if not any(other < lot for other in broken))
            greatest = sorted(sorted(lot) for lot in stand if not any(lot < other for other in stand))
            self.assertEqual(least_breaking(*question, keys), least)
            self.assertEqual(greatest_standing(*question, listed(keys)), greatest)
            self.assertEqual(charted(lambda lot: breaks(question, lot), keys), (least, greatest))
            self.assertEqual(greatest, sorted([key for key in sorted(keys) if key not in lot] for lot in meeting(keys, least)))
            self.assertEqual(meeting(keys, meeting(keys, least)), least)
            due = [len([lot for lot in stand if lot | {key} in broken]) for key in keys]
            self.assertEqual(turns(*question, keys), due)
            for key, many in zip(keys, due):
                self.assertEqual(many == 0, not any(key in lot for lot in least))
            for prices in ([chance.randint(0, 3) for _ in keys], [chance.randint(1, 10 ** 9) for _ in keys]):
                price_of = dict(zip(keys, prices))
                priced = [(sum(price_of[key] for key in lot), sorted(lot)) for lot in broken]
                told = cheapest(*question, keys, prices)
                self.assertEqual(told, min(priced) if priced else None)
                if told and 0 not in prices:
                    self.assertIn(told[1], least)
            self.holds(question, keys, least)
            lengths.add(len(least))
        self.assertGreater(len(lengths), 3)

    def holds(self, question, keys, least):
        """Of an attack of a lot it uses each key of a least lot; whatever has its keys has it."""
        post, protocols, messages = question
        for lot in least:
            more = with_keys(post, lot)
            found = attack_of(more, protocols, messages, 300)
            self.assertNotIn(found, (None, "long"))
            if found[0] == "long":
                continue
            used = used_keys(more, protocols, messages, listed(found))
            self.assertLessEqual(set(lot), set(used))
            self.assertEqual(used, sorted(set(used)))
            own = Post(post.agents(), sorted(set(used) | {key for key in post.keyring()}))
            self.assertIsNone(judged_attack(own, protocols, messages, found))

    def test_edges(self):
        bare = (P, [weak], [([("cipher", "bob")], 0)])
        safe = (P, [tight], first_messages(P, [tight], "ann", "bob", 7))
        self.assertEqual((least_breaking(*bare, []), greatest_standing(*bare, []), turns(*bare, [])), ([[]], [], []))
        self.assertEqual((least_breaking(*safe, []), greatest_standing(*safe, []), turns(*safe, [])), ([], [[]], []))
        self.assertEqual((least_breaking(*bare, FOUR), greatest_standing(*bare, FOUR), turns(*bare, FOUR)), ([[]], [], [0] * 4))
        self.assertEqual((cheapest(*bare, [], []), cheapest(*safe, [], []), cheapest(*bare, FOUR, [5] * 4)), ((0, []), None, (0, [])))
        self.assertEqual(least_breaking(P, [], [], FOUR), [])
        self.assertEqual(greatest_standing(P, [], [], FOUR[::-1]), [FOUR])
        self.assertIsNone(cheapest(P, [], [], FOUR, [0, 0, 0, 0]))
        self.assertEqual(least_breaking(P, [], [([], 0)], FOUR), [[]])

    def test_free_keys_may_come_first(self):
        messages = [([("cipher", "bob")], 0)]
        self.assertEqual(cheapest(P, [], messages, FOUR[:2], [0, 1]), (1, FOUR[:2]))
        self.assertEqual(cheapest(P, [], messages, FOUR[:2], [1, 0]), (0, FOUR[1:2]))
        self.assertEqual(cheapest(P, [], messages, FOUR[1:], (0, 0, 0)), (0, [FOUR[1]]))
        self.assertEqual(cheapest(P, [], messages, [FOUR[3], FOUR[1]], (0, 7)), (7, [FOUR[1]]))

    def test_prices_refused(self):
        for wrong in [[1, 2, 3], [1, 2, 3, 4, 5], [1, 2, 3, -1], [1, 2, 3, True], [1, 2, 3, None], "1234", {1: 2}, [1.0, 2, 3, 4],
                      [[1, 2, 3, 4]]] + things():
            with self.assertRaises(BadPrices) as caught:
                cheapest(P, [NEST], MESSAGES, FOUR, wrong)
            self.assertIs(caught.exception.prices, wrong)


class TestUsedKeys(unittest.TestCase):
    def test_edges(self):
        bare = [([], 0), ([("seal", "bob"), ("cipher", "eve"), w1], 1)]
        self.assertEqual(used_keys(P, [], bare, (0, [])), [])
        moves = [("take", ("seal", "bob")), ("take", ("cipher", "eve")), ("take", w1)]
        self.assertEqual(used_keys(P, [], bare, (1, moves)), [("cipher", "eve")])
        moves = [["put", ["seal", "eve"]], ["put", ["cipher", "bob"]], ["put", ["seal", "eve"]]]
        self.assertEqual(used_keys(P, [], [([("cipher", "eve")], 0)], (0, [("take", ("cipher", "eve")), ("put", ("cipher", "eve")),
                                                                            ("take", ("cipher", "eve"))])), [("cipher", "eve")])
        seals = read_protocol("protocol seals { 0 takes nothing puts nothing ; 1 takes seal 0 , cipher 1 , seal 0 , word 1 puts nothing ; }")
        moves = [("put", w1)] + moves + [("answer", "seals", "bob", "eve", 1)]
        self.assertEqual(judged_attack(P, [seals], bare, (0, moves)), None)
        self.assertEqual(used_keys(P, [seals], bare, (0, moves)), [("seal", "eve")])

    def test_refused(self):
        for wrong in [(0, []), (1, []), (0,), None, (0, [("take", w1)])] + things():
            with self.assertRaises(BadAttack) as caught:
                used_keys(P, [NEST], MESSAGES, wrong)
            self.assertIs(caught.exception.attack, wrong)


def judged_by_trying(post, protocols, messages, keys, thing):
    """What judged_chart is to tell of pairs of lots of keys, as its point says."""
    broken, standing = thing
    for index, (lot, answer) in enumerate(broken):
        if not is_answer(with_keys(post, lot), protocols, messages, answer) or answer[0] != "bare":
            return ("bare", index)
    for index, (lot, answer) in enumerate(standing):
        if not is_answer(with_keys(post, lot), protocols, messages, answer) or answer[0] != "safe":
            return ("safe", index)
    for lot in subsets(keys):
        if not any(set(other) <= set(lot) for other, _ in broken) and not any(set(lot) <= set(other) for other, _ in standing):
            return ("lot", lot)
    return None


class TestCharts(unittest.TestCase):
    def test_example(self):
        told = chart(P, [NEST], MESSAGES, FOUR)
        self.assertEqual(([lot for lot, _ in told[0]], [lot for lot, _ in told[1]]), (LEAST, GREATEST))
        self.assertEqual([part.__class__ for part in (told, told[0], told[0][0], told[0][0][0], told[0][0][1])],
                         [tuple, list, tuple, list, tuple])
        self.assertIsNone(judged_chart(P, [NEST], MESSAGES, FOUR, told))
        self.assertIsNone(judged_chart(P, [NEST], MESSAGES, FOUR[::-1], listed(told)))
        self.assertIsNone(judged_chart(P, [NEST], MESSAGES, FOUR, tupled(told)))
        self.assertEqual(judged_chart(P, [NEST], MESSAGES, FOUR, (told[0][1:], told[1])), ("lot", LEAST[0]))
        self.assertEqual(judged_chart(P, [NEST], MESSAGES, FOUR, (told[0], told[1][:1])), ("lot", [("cipher", "bob")]))
        self.assertEqual(judged_chart(P, [NEST], MESSAGES, FOUR, ([], [])), ("lot", []))
        self.assertEqual(judged_chart(P, [NEST], MESSAGES, FOUR, (told[1], told[0])), ("bare", 0))
        self.assertEqual(judged_chart(P, [NEST], MESSAGES, FOUR, (told[0], told[1] + told[0])), ("safe", 2))
        self.assertIsNone(judged_chart(P, [NEST], MESSAGES, FOUR, (told[0] * 2, told[1][::-1])))

    def test_right_ones(self):
        for chance in plain.chances(40):
            question = key_question(chance)
            keys = asked_keys(chance, question[0], chance.randint(0, 4))
            told = chart(*question, keys)
            self.assertEqual([lot for lot, _ in told[0]], least_breaking(*question, keys))
            self.assertEqual([lot for lot, _ in told[1]], greatest_standing(*question, keys))
            self.assertIsNone(judged_chart(*question, keys, told))
            for lot, answer in told[0] + told[1]:
                self.assertEqual(answer, answer_for(with_keys(question[0], lot), *question[1:]))
            for lot in subsets(keys):
                broken = any(set(other) <= set(lot) for other, _ in told[0])
                self.assertEqual(broken, breaks(question, lot))
                self.assertNotEqual(broken, any(set(lot) <= set(other) for other, _ in told[1]))

    def test_bent(self):
        kinds = {}
        for chance in plain.chances(25):
            question = key_question(chance)
            keys = asked_keys(chance, question[0], chance.randint(1, 3))
            told = chart(*question, keys)
            others = [keys[0], "bare", 0, 1, [], None]
            bends = [thing for thing in plain.bent(told, others) if chance.random() < 0.06][:60]
            bends += [(told[0][:at] + told[0][at + 1:], told[1]) for at in range(len(told[0]))]
            bends += [(told[0], told[1][:at] + told[1][at + 1:]) for at in range(len(told[1]))]
            for thing in bends:
                due = judged_by_trying(*question, keys, thing) if self.is_formed(thing, keys) else ("form",)
                self.assertEqual(judged_chart(*question, keys, thing), due)
                kinds[due and due[0]] = kinds.get(due and due[0], 0) + 1
        self.assertGreater(min(kinds[kind] for kind in ("form", "bare", "safe", "lot")), 3)
        self.assertIn(None, kinds)

    def is_formed(self, thing, keys):
        rows = (list, tuple)
        if not isinstance(thing, rows) or len(thing) != 2 or not all(isinstance(part, rows) for part in thing):
            return False
        for pair in list(thing[0]) + list(thing[1]):
            if not isinstance(pair, rows) or len(pair) != 2 or not isinstance(pair[0], rows):
                return False
            lot = pair[0]
            if not all(isinstance(key, rows) and len(key) == 2 and isinstance(key[0], str) and tuple(key) in keys for key in lot):
                return False
            if sorted(set(map(tuple, lot))) != list(map(tuple, lot)):
                return False
        return all(isinstance(pair[1], tuple) and has_form(pair[1]) or True for pair in list(thing[0]) + list(thing[1]))

    def test_form(self):
        right = chart(P, [NEST], MESSAGES, FOUR)
        for wrong in [(right[0],), right + ([],), (right[0], None), right[0], ([(LEAST[0],)], []), ([(LEAST[0][::-1], None)], []),
                      ([([FOUR[0], FOUR[0]], None)], []), ([([("cipher", "eve")], None)], []), ([("ab", None)], []), ([], [(None, None)]),
                      ([], [([None], None)]), ([([("cipher", ["ann"])], None)], [])] + things():
            self.assertEqual(judged_chart(P, [NEST], MESSAGES, FOUR, wrong), ("form",))
        for thing in things():
            self.assertEqual(judged_chart(P, [NEST], MESSAGES, FOUR, ([(LEAST[0], thing)], [])), ("bare", 0))
            self.assertEqual(judged_chart(P, [NEST], MESSAGES, FOUR, (right[0], [([], thing)])), ("safe", 0))
            self.assertEqual(judged_chart(P, [NEST], MESSAGES, FOUR, (right[0], [(thing, right[0][0][1])])), ("form",))


class TestLimits(unittest.TestCase):
    def test_five_agents_three_protocols_six_keys(self):
        post = Post(AGENTS[:5], [("cipher", "eve"), ("seal", "eve")])
        begin = time.time()
        for seed in range(4):
            chance = random.Random(seed)
            protocols = [[strong, NEST, tight], [tight, random_protocol(chance, "two", 5), random_protocol(chance, "tri", 5)]][seed % 2]
            messages = first_messages(post, protocols, "ann", "bob", 10 ** 12)[:1 + seed % 2]
            messages += [([("cipher", agent) for agent in AGENTS[:4]] * 3, 0)]
            keys = asked_keys(chance, post, 6)
            told = chart(post, protocols, messages, keys)
            self.assertIsNone(judged_chart(post, protocols, messages, keys, told))
            turns(post, protocols, messages, keys)
            cheapest(post, protocols, messages, keys, [999999999 - at for at in range(6)])
        keys = asked_keys(chance, post, 8)
        self.assertEqual(len(keys), 8)
        least = least_breaking(post, [tight], [([(kind, agent) for kind in ("cipher", "seal") for agent in AGENTS[:4]], 1)], keys)
        self.assertEqual(least, [[("cipher", agent) for agent in AGENTS[:4]]])
        self.assertLess(time.time() - begin, 30)


if __name__ == "__main__":
    unittest.main()

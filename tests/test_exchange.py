"""Any number of agents: [13.1], [13.2], [13.3], [13.4], and what [13.6] says of them."""

import random
import time
import unittest

from roadheld.agents import Post
from roadheld.answers import answer_for
from roadheld.attacks import attack_of, fewest, judged_attack
from roadheld.errors import BadMessages, BadPost, BadProtocols
from roadheld.exchange import agents_in, exchanged, fewer
from roadheld.ledover import attack_over, paper_over
from roadheld.papers import is_paper
from roadheld.protocols import read_protocol
from roadheld.refusals import BadAdversary, BadAttack, BadKept, BadPaper
from roadheld.rules import first_messages, layers_of, rules_of
from tests import plain
from tests.samples import AGENTS, P, listed, random_protocol, random_question, things, tight, w1, weak

SLOW = read_protocol("protocol slow { 0 takes nothing puts cipher 1 , word 0 ; 1 takes seal 0 , word 0 , cipher 1 puts label 0 , "
                     "word 0 , word 0 ; 0 takes label 0 , word 0 , word 0 puts cipher 1 ; }")
FOUR = Post(["ann", "bob", "cid", "eve"], [("cipher", "eve"), ("seal", "eve"), ("seal", "cid")])
LONE = [("put", ("word", 0)), ("put", ("seal", "cid")), ("answer", "slow", "bob", "cid", 1), ("take", ("label", "cid")),
        ("take", ("word", 0)), ("take", ("word", 0)), ("take", ("word", 0))]


def kept_of(chance, post):
    """Some agents of a post, and one that is lost."""
    keys = post.keyring()
    lost = [agent for agent in post.agents() if ("cipher", agent) in keys and ("seal", agent) in keys]
    kept = [agent for agent in post.agents() if chance.random() < 0.5]
    chance.shuffle(kept)
    return kept, chance.choice(lost)


class TestExample(unittest.TestCase):
    def test_slow(self):
        messages = first_messages(P, [SLOW], "ann", "bob", 7)
        self.assertEqual(agents_in(messages), ["bob"])
        self.assertEqual(fewest(P, [SLOW], messages), (7, 0))
        messages = first_messages(FOUR, [SLOW], "ann", "bob", 7)
        attack = (0, LONE)
        self.assertIsNone(judged_attack(FOUR, [SLOW], messages, attack))
        led = attack_over(FOUR, [SLOW], messages, ["ann", "bob"], "eve", attack)
        self.assertEqual(led, (0, [("put", ("word", 0)), ("put", ("seal", "eve")), ("answer", "slow", "bob", "eve", 1),
                                   ("take", ("label", "eve"))] + [("take", ("word", 0))] * 3))
        self.assertEqual([part.__class__ for part in (led, led[1], led[1][0], led[1][0][1])], [tuple, list, tuple, tuple])
        three = fewer(FOUR, ["bob", "ann"], "eve")
        self.assertTrue(three == P)
        self.assertIsNone(judged_attack(three, [SLOW], exchanged(FOUR, ["bob", "ann"], "eve", messages), led))

    def test_an_answer_of_the_adversary_to_itself(self):
        messages = [([("label", "eve"), ("word", 0), ("word", 0), ("label", "ann")], 1)]
        attack = (0, [("answer", "slow", "cid", "eve", 2), ("put", ("word", 5))])
        moves = attack[1][:1]
        self.assertIsNotNone(judged_attack(FOUR, [SLOW], messages, attack))
        back = [("take", ("cipher", "eve")), ("take", ("label", "ann"))]
        messages = [([("label", "cid"), ("word", 0), ("word", 0), ("label", "ann")], 1)]
        told = attack_over(FOUR, [SLOW], messages, ["ann", "bob"], "eve", (0, moves + back))
        self.assertEqual(told, (0, [("take", ("label", "eve")), ("take", ("word", 0)), ("take", ("word", 0)), ("put", ("cipher", "eve")),
                                    ("take", ("cipher", "eve")), ("take", ("label", "ann"))]))

    def test_puts_from_the_last_one_up(self):
        post = Post(["cid", "dan", "eve"], [("cipher", "eve"), ("seal", "eve")])
        proto = read_protocol("protocol one { 0 takes nothing puts nothing ; 1 takes cipher 1 , label 0 puts word 1 , seal 1 , cipher 0 ; }")
        messages = [([("cipher", "cid"), ("label", "dan")], 0), ([], 0)]
        told = attack_over(post, [proto], messages + [([], 5)], [], "eve", (1, []))
        self.assertEqual(told, (1, []))
        moves = [("answer", "one", "cid", "dan", 1)]
        back = [("take", ("word", 1)), ("take", ("seal", "cid"))]
        more = read_protocol("protocol two { 0 takes nothing puts nothing ; 1 takes cipher 1 puts nothing ; }")
        attack = [0, moves + back + [["answer", "two", "dan", "cid", 1]]]
        told = attack_over(post, [proto, more], messages, ["eve"], "eve", attack)
        self.assertEqual(told, (0, [("take", ("cipher", "eve")), ("take", ("label", "eve")), ("put", ("cipher", "eve")),
                                    ("put", ("seal", "eve")), ("put", ("word", 1)), ("take", ("word", 1)), ("take", ("seal", "eve")),
                                    ("take", ("cipher", "eve"))]))


class TestExchanged(unittest.TestCase):
    def test_edges(self):
        messages = [([("label", "ann"), ("cipher", "bob"), w1, ("seal", "cid"), ("label", "eve")], 3), ([], -1)]
        self.assertEqual(exchanged(FOUR, [], "eve", messages),
                         [([("label", "eve"), ("cipher", "eve"), w1, ("seal", "eve"), ("label", "eve")], 3), ([], -1)])
        self.assertEqual(exchanged(FOUR, ["cid", "ann"], "eve", listed(messages)),
                         [([("label", "ann"), ("cipher", "eve"), w1, ("seal", "cid"), ("label", "eve")], 3), ([], -1)])
        self.assertEqual(exchanged(FOUR, ("eve", "cid", "bob", "ann"), "eve", messages), messages)
        self.assertEqual(exchanged(FOUR, [], "eve", []), [])

    def test_fewer(self):
        self.assertTrue(fewer(FOUR, [], "eve") == Post(["eve"], [("cipher", "eve"), ("seal", "eve")]))
        self.assertTrue(fewer(FOUR, ["eve"], "eve") == fewer(FOUR, [], "eve"))
        self.assertTrue(fewer(FOUR, ["cid"], "eve") == Post(["cid", "eve"], [("cipher", "eve"), ("seal", "eve"), ("seal", "cid")]))
        self.assertTrue(fewer(FOUR, ["ann", "bob", "cid"], "eve") == FOUR)
        two = Post(["ann", "bob"], [(kind, agent) for kind in ("cipher", "seal") for agent in ("ann", "bob")])
        self.assertTrue(fewer(two, [], "ann") == Post(["ann"], [("cipher", "ann"), ("seal", "ann")]))
        self.assertTrue(fewer(two, [], "bob") == Post(["bob"], [("cipher", "bob"), ("seal", "bob")]))
        self.assertTrue(fewer(two, ["ann"], "bob") == two)

    def test_agents_in(self):
        self.assertEqual(agents_in([]), [])
        self.assertEqual(agents_in([([w1], 3)]), [])
        self.assertEqual(agents_in([([("label", "zoe"), w1], 3), ([("cipher", "ann"), ("seal", "zoe"), ("seal", "bob")], 0)]),
                         ["ann", "bob", "zoe"])

    def test_refused(self):
        for wrong in ["ann", ["ann", "ann"], ["zoe"], ["ann", None], {"ann": 1}, [["ann"]], ["ann", "Bob"]] + things():
            for function, more in ((exchanged, (None,)), (fewer, ()), (paper_over, (None,))):
                with self.assertRaises(BadKept) as caught:
                    function(FOUR, wrong, "zoe", *more)
                self.assertIs(caught.exception.kept, wrong)
            with self.assertRaises(BadKept):
                attack_over(FOUR, [SLOW], [], wrong, "zoe", None)
        for wrong in ["ann", "cid", "zoe", "", ["eve"], None] + things():
            for function, more in ((exchanged, (None,)), (fewer, ()), (paper_over, (None,))):
                with self.assertRaises(BadAdversary) as caught:
                    function(FOUR, ["ann"], wrong, *more)
                self.assertIs(caught.exception.adversary, wrong)
        with self.assertRaises(BadMessages):
            exchanged(FOUR, [], "eve", [([("label", "zoe")], 0)])
        with self.assertRaises(BadPost):
            attack_over(None, None, None, None, None, None)
        with self.assertRaises(BadProtocols):
            attack_over(FOUR, None, None, None, None, None)
        with self.assertRaises(BadMessages):
            attack_over(FOUR, [], None, None, None, None)


class TestAttacks(unittest.TestCase):
    def test_it_is_an_attack_of_fewer(self):
        seen = 0
        for chance in plain.chances(500):
            post, protocols, messages = random_question(chance)
            found = attack_of(post, protocols, messages, 60)
            if found is None or found[0] == "long":
                continue
            kept, adversary = kept_of(chance, post)
            led = attack_over(post, protocols, messages, kept, adversary, listed(found))
            self.assertIsNone(judged_attack(fewer(post, kept, adversary), protocols, exchanged(post, kept, adversary, messages), led))
            self.assertLessEqual(len(led[1]), 12 * len(found[1]))
            self.assertEqual(led, attack_over(post, protocols, messages, kept + [adversary] * (adversary not in kept), adversary, found))
            seen += len(led[1]) != len(found[1])
        self.assertGreater(seen, 4)

    def test_refused(self):
        messages = first_messages(FOUR, [SLOW], "ann", "bob", 7)
        for wrong in [(0, LONE[:-1]), (1, LONE), (0, LONE + LONE), (0, LONE[1:]), (0,), (0, LONE, 0), LONE] + things():
            with self.assertRaises(BadAttack) as caught:
                attack_over(FOUR, [SLOW], messages, ["ann"], "eve", wrong)
            self.assertIs(caught.exception.attack, wrong)


class TestPapers(unittest.TestCase):
    def test_rows(self):
        paper = (3, [0], [(0, ("cipher", "ann"), 2), (0, ("label", "eve"), 1), (0, ("seal", "eve"), 1), (1, w1, 2)], [2])
        self.assertEqual(paper_over(FOUR, ["ann"], "eve", listed(paper)),
                         (3, [0], [(0, ("cipher", "ann"), 2), (0, ("label", "bob"), 1), (0, ("label", "cid"), 1), (0, ("label", "eve"), 1),
                                   (0, ("seal", "bob"), 1), (0, ("seal", "cid"), 1), (0, ("seal", "eve"), 1), (1, w1, 2)], [2]))
        self.assertEqual(paper_over(FOUR, ["ann", "bob", "cid"], "eve", paper), paper)
        self.assertEqual(paper_over(FOUR, [], "eve", (2, [], [], [1])), (2, [], [], [1]))

    def test_it_is_a_paper_of_all(self):
        seen = 0
        for chance in plain.chances(200):
            post, protocols, messages = random_question(chance)
            kept, adversary = kept_of(chance, post)
            less = fewer(post, kept, adversary)
            told = answer_for(less, protocols, exchanged(post, kept, adversary, messages))
            if told[0] == "safe":
                over = paper_over(post, kept, adversary, told[1])
                self.assertTrue(is_paper(rules_of(post, protocols), messages, over))
                self.assertEqual(over[0:2] + over[3:], told[1][0:2] + told[1][3:])
                seen += len(less.agents()) < len(post.agents())
        self.assertGreater(seen, 30)

    def test_refused(self):
        for wrong in [(1, [0], [(0, ("label", "bob"), 0)], []), (1, [0], [(0, ("label", "zoe"), 0)], []), (0, [], [], []),
                      (1, [0], [(0, w1, 0), (0, w1, 0)], [])] + things():
            with self.assertRaises(BadPaper) as caught:
                paper_over(FOUR, ["ann"], "eve", wrong)
            self.assertIs(caught.exception.paper, wrong)
        self.assertEqual(paper_over(FOUR, ["ann"], "eve", (1, [0], [(0, ("label", "ann"), 0)], []))[0], 1)


class TestHoweverMany(unittest.TestCase):
    def test_the_same_word(self):
        seen = {"bare": 0, "safe": 0}
        for chance in plain.chances(200):
            post, protocols, messages = random_question(chance)
            kept, adversary = kept_of(chance, post)
            kept = kept + [agent for agent in agents_in(messages) if agent not in kept]
            less = fewer(post, kept, adversary)
            told = answer_for(post, protocols, messages)
            self.assertEqual(answer_for(less, protocols, messages)[0], told[0])
            seen[told[0]] += 1
            if told[0] == "safe":
                self.assertTrue(is_paper(rules_of(less, protocols), messages, told[1]))
            else:
                found = attack_of(less, protocols, messages, 1000)
                self.assertIsNone(judged_attack(post, protocols, messages, found))
        self.assertGreater(min(seen.values()), 50)


class TestLimits(unittest.TestCase):
    def test_eight_agents(self):
        post = Post(AGENTS[:8], [("cipher", "hal"), ("seal", "hal"), ("cipher", "gus"), ("seal", "gus")])
        begin = time.time()
        for seed in range(6):
            chance = random.Random(seed)
            protocols = [weak, tight, random_protocol(chance, "odd")]
            messages = first_messages(post, protocols, "ann", "bob", 10 ** 12)
            told = answer_for(fewer(post, ["ann", "bob"], "gus"), protocols, messages)
            self.assertEqual(told[0], "bare")
            found = attack_of(post, protocols, messages, 200)
            moves = [("put", w1), ("take", w1)] * 45 + found[1]
            led = attack_over(post, protocols, messages, ["bob"], "gus", (found[0], moves))
            self.assertIsNone(judged_attack(fewer(post, ["bob"], "gus"), protocols, exchanged(post, ["bob"], "gus", messages), led))
        letters = layers_of(["ann", "gus"])
        machine = plain.random_machine(random.Random(1), letters, 100, 3000)
        self.assertGreater(len(paper_over(post, ["ann"], "gus", machine)[2]), len(machine[2]))
        self.assertLess(time.time() - begin, 10)


if __name__ == "__main__":
    unittest.main()

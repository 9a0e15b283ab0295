"""How soon: [13.5], and what [13.6] says of it."""

import random
import time
import unittest

from roadheld.agents import Post
from roadheld.answers import answer_for
from roadheld.attacks import fewest
from roadheld.errors import BadMessages, BadMost, BadPost, BadProtocols
from roadheld.exchange import agents_in
from roadheld.howsoon import numbers_by
from roadheld.protocols import Proto, read_protocol
from roadheld.rules import first_messages
from tests import plain
from tests.samples import G, P, listed, random_protocol, random_question, things, tupled, weak

SLOW = read_protocol("protocol slow { 0 takes nothing puts cipher 1 , word 0 ; 1 takes seal 0 , word 0 , cipher 1 puts label 0 , "
                     "word 0 , word 0 ; 0 takes label 0 , word 0 , word 0 puts cipher 1 ; }")
SLOWED = first_messages(P, [SLOW], "ann", "bob", 7)


def post_of(post, messages, many):
    """The post that is asked about, told slowly."""
    agents = agents_in(messages)
    names = [name for name in "abcdefghijklmnopqrstuvwxyz" if name not in agents][:many]
    keys = [key for key in post.keyring() if key[1] in agents] + [(kind, name) for kind in ("seal", "cipher") for name in names]
    return Post(agents + names, keys)


def numbers(post, protocols, messages, most):
    found = [fewest(post_of(post, messages, many), protocols, messages) for many in range(1, most + 1)]
    return [told and told[0] for told in found]


class TestExample(unittest.TestCase):
    def test_slow(self):
        self.assertEqual(agents_in(SLOWED), ["bob"])
        self.assertEqual(numbers_by(P, [SLOW], SLOWED, 3), [7, 6, 6])


class TestNumbers(unittest.TestCase):
    def test_by_trying(self):
        seen = set()
        for seed in range(250):
            chance = random.Random(seed)
            post, protocols, messages = random_question(chance)
            most = chance.randint(0, 4)
            told = numbers_by(post, protocols, messages, most)
            self.assertEqual(told, numbers(post, protocols, messages, most))
            if most:
                # All of them are None just if the answer is safe, or none is.
                bare = answer_for(post, protocols, messages)[0] == "bare"
                self.assertEqual([number is not None for number in told], [bare] * most)
                self.assertEqual(told, sorted(told, reverse=True) if bare else told)
                seen.add(bare)
        self.assertEqual(len(seen), 2)

    def test_more_than_six(self):
        steep = 0
        for seed in range(60):
            chance = random.Random(seed)
            protocol = random_protocol(chance, "one", 4)
            steps = protocol.steps()
            messages = [(first_messages(P, [protocol], "ann", "bob", 0)[0][0], 0)]
            told = numbers_by(P, [Proto("one", steps), SLOW], messages, 8)
            self.assertEqual(told, numbers(P, [protocol, SLOW], messages, 8))
            steep += len(set(told)) > 1
        self.assertEqual(numbers_by(P, [SLOW], SLOWED, 9), [7] + [6] * 8)
        self.assertGreater(steep, 0)

    def test_no_other_agents_help(self):
        for seed in range(60):
            chance = random.Random(seed)
            post, protocols, messages = random_question(chance)
            found = fewest(post, protocols, messages)
            last = numbers_by(post, protocols, messages, 6)[-1]
            self.assertEqual(found is None, last is None)
            if found is not None:
                self.assertLessEqual(last, found[0])

    def test_names(self):
        # The lost agents are called otherwise than those in the messages, so one called a stays whoever it is.
        messages = [([("cipher", "a")], 0)]
        post = Post(["a", "b"], [("cipher", "b"), ("seal", "b")])
        self.assertEqual(numbers_by(post, [], messages, 2), [None, None])
        lost = Post(["a", "b"], [("cipher", "a"), ("seal", "a")])
        self.assertEqual(numbers_by(lost, [], messages, 2), [1, 1])
        half = Post(["a", "b"], [("cipher", "a"), ("seal", "b"), ("cipher", "b")])
        self.assertEqual(numbers_by(half, [], messages, 1), [1])
        self.assertEqual(numbers_by(post, [weak], messages, 2), [2, 2])

    def test_edges(self):
        self.assertEqual(numbers_by(P, [G], [], 2), [None, None])
        self.assertEqual(numbers_by(P, [G], [([], 5)], 2), [0, 0])
        self.assertEqual(numbers_by(P, [G], [([], 5)], 0), [])
        self.assertEqual(numbers_by(P, [], [([("word", 1)], 5)], 6), [1] * 6)

    def test_wrong(self):
        for thing in things():
            with self.assertRaises(BadPost):
                numbers_by(thing, thing, thing, thing)
            with self.assertRaises(BadProtocols):
                numbers_by(P, [thing], thing, thing)
            with self.assertRaises(BadMessages):
                numbers_by(P, [G], [thing], thing)
            with self.assertRaises(BadMost) as caught:
                numbers_by(P, [G], [], thing)
            self.assertIs(caught.exception.most, thing)
        with self.assertRaises(BadMessages):
            numbers_by(P, [G], [([("cipher", "zoe")], 0)], 1)

    def test_lists_for_tuples(self):
        for kind in (listed, tupled):
            self.assertEqual(numbers_by(post=P, protocols=kind([SLOW]), messages=kind(SLOWED), most=2), [7, 6])

    def test_limits(self):
        begin = time.time()
        for seed in range(3):
            chance = random.Random(seed)
            protocols = []
            for name in ("one", "two", "three"):
                steps = [(0, [], [("cipher", 1)])]
                for at in range(1, 8):
                    part = at % 2
                    takes = [("cipher", part), ("label", 0), ("label", 1), ("seal", 1 - part), ("word", chance.randrange(10))]
                    puts = [("cipher", 0), ("cipher", 1), ("label", 0), ("seal", part), ("word", chance.randrange(10))]
                    steps.append((part, [chance.choice(takes) for _ in range(chance.randint(2, 6))],
                                  [chance.choice(puts) for _ in range(chance.randint(0, 6))]))
                protocols.append(Proto(name, steps))
            post = Post(["ann", "bob", "cid", "dan", "eve"], [("cipher", "eve"), ("seal", "eve")])
            row = [("cipher", "ann"), ("label", "bob"), ("seal", "cid"), ("cipher", "dan"), ("word", 1), ("label", "eve")]
            told = numbers_by(post, protocols, [(row, 0), (row[1:], 1)], 6)
            self.assertEqual(len(told), 6)
        self.assertLess(time.time() - begin, 30)


if __name__ == "__main__":
    unittest.main()

"""Posts, and what the adversary may: [3.1], [3.2], [3.4]."""

import itertools
import unittest

from roadheld.agents import Post, may_put, may_take
from roadheld.errors import BadAgents, BadKeys, BadLayer
from tests.samples import AGENTS, T


class TestPosts(unittest.TestCase):
    def test_example(self):
        self.assertEqual(T.agents(), ["ann", "bob", "eve"])
        self.assertEqual(T.keyring(), [("cipher", "eve"), ("seal", "eve")])
        self.assertIs(may_put(T, ("cipher", "bob")), True)
        self.assertIs(may_take(T, ("cipher", "bob")), False)
        self.assertIs(may_take(T, ("seal", "ann")), True)
        self.assertIs(may_put(T, ("seal", "ann")), False)

    def test_agents_by_their_signs(self):
        for name in ("a", "z", "abcdefgh", "zzzzzzzz", "ciphers", "take", "begin", "mine"):
            self.assertEqual(Post([name], [("seal", name), ("cipher", name)]).agents(), [name])

    def test_several_lost_and_half_lost(self):
        keys = [("seal", "ann"), ("cipher", "dan"), ("seal", "dan"), ("cipher", "bob"), ("cipher", "ann")]
        post = Post(["dan", "ann", "cid", "bob"], keys)
        self.assertEqual(post.keyring(), sorted(keys))
        for agent in post.agents():
            self.assertIs(may_take(post, ("cipher", agent)), ("cipher", agent) in keys)
            self.assertIs(may_put(post, ("seal", agent)), ("seal", agent) in keys)
            self.assertIs(may_put(post, ("cipher", agent)), True)
            self.assertIs(may_take(post, ("seal", agent)), True)
            self.assertIs(may_put(post, ("label", agent)), True)
            self.assertIs(may_take(post, ("label", agent)), True)

    def test_words(self):
        for number in range(10):
            self.assertIs(may_put(T, ("word", number)), True)
            self.assertIs(may_take(T, ["word", number]), True)
        for number in (10, -1, True, "1"):
            self.assertRaises(BadLayer, may_put, T, ("word", number))

    def test_equal(self):
        keys = [("seal", "eve"), ("cipher", "eve")]
        self.assertEqual(Post(["eve", "bob"], keys), Post(("bob", "eve"), keys[::-1]))
        self.assertNotEqual(Post(["eve", "bob"], keys), Post(["eve", "cid"], keys))
        self.assertNotEqual(Post(["eve", "bob"], keys), Post(["eve", "bob"], keys + [("seal", "bob")]))
        self.assertNotEqual(Post(["eve", "bob"], keys), Post(["eve"], keys))

    def test_one_agent_has_to_be_lost(self):
        self.assertRaises(BadKeys, Post, ["ann", "bob"], [("cipher", "ann"), ("seal", "bob")])
        self.assertRaises(BadKeys, Post, [], [])
        self.assertRaises(BadAgents, Post, ["ann", "ann"], [])

    def test_limits(self):
        keys = [(kind, agent) for kind, agent in itertools.product(("seal", "cipher"), AGENTS)]
        post = Post(AGENTS[::-1], keys)
        self.assertEqual((post.agents(), post.keyring()), (sorted(AGENTS), sorted(keys)))


if __name__ == "__main__":
    unittest.main()

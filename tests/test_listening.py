"""Who only listens, who answers so often: [18.5], [18.6], and what [18.7] says of them."""

import random
import time
import unittest

from roadheld.agents import Post
from roadheld.attacks import fewest
from roadheld.costs import cost
from roadheld.errors import BadAgent, BadAgents, BadCore, BadMessages, BadPartner, BadPost, BadProtocol, BadProtocols
from roadheld.listening import answers_needed, counted_moves, overheard, run_messages
from roadheld.mends import goes_on
from roadheld.posts import held_by
from roadheld.protocols import Proto, dealt, read_protocol
from roadheld.rules import first_messages, rules_of
from tests import plain
from tests.samples import AGENTS, Odd, P, listed, random_protocol, random_question, strong, things, tupled, weak
from tests.test_mends import going_protocol

STRONG = rules_of(P, [strong])
ROW = [("cipher", "bob"), ("label", "ann"), ("cipher", "bob")]
STUCK = read_protocol("protocol stuck { 0 takes nothing puts cipher 1 ; 1 takes label 0 puts nothing ; }")


def counted_slowly(post, protocols, agents):
    """The rules that only answers of some agents bring about, each held against all moves."""
    keys, told = post.keyring(), []
    for index, (takes, puts, _) in enumerate(rules_of(post, protocols)):
        if not takes and len(puts) == 1 and (puts[0][0] != "seal" or puts[0] in keys):
            continue
        if not puts and len(takes) == 1 and (takes[0][0] != "cipher" or takes[0] in keys):
            continue
        doers = set()
        for protocol in protocols:
            for part, its_takes, its_puts in protocol.steps()[1:]:
                for agent in post.agents():
                    for partner in post.agents():
                        zero, one = (agent, partner) if part == 0 else (partner, agent)
                        if agent != partner and dealt(its_takes, zero, one) == takes and dealt(its_puts, zero, one) == puts:
                            doers.add(agent)
        if doers <= set(agents):
            told.append(index)
    return told


class TestExample(unittest.TestCase):
    def test_strong(self):
        self.assertEqual(counted_moves(P, [strong], ["bob"]), [36, 37])
        self.assertEqual(cost(STRONG, [36, 37], ROW), (1, 14))
        self.assertEqual(cost(STRONG, counted_moves(P, [strong], ["ann"]), ROW), (0, 13))
        self.assertEqual(cost(STRONG, counted_moves(P, [strong], ["ann", "bob", "eve"]), ROW), (2, 13))
        needed = [answers_needed(P, [strong], [(ROW, 7)], agents) for agents in (["bob"], ["ann"], P.agents())]
        self.assertEqual(needed, [1, 0, 2])
        self.assertIsNone(overheard(P, strong, "ann", "bob"))
        self.assertEqual(run_messages(strong, "ann", "bob", 7),
                         [(ROW, 7), ([("cipher", "ann"), ("label", "bob"), ("cipher", "ann")], 7)])


class TestCounted(unittest.TestCase):
    def test_by_trying(self):
        fewer = 0
        for seed in range(200):
            chance = random.Random(seed)
            post, protocols, _ = random_question(chance)
            agents = [agent for agent in post.agents() if chance.random() < 0.6]
            told = counted_moves(post, protocols, agents)
            self.assertEqual(told, counted_slowly(post, protocols, agents))
            fewer += 0 < len(told) < len(counted_moves(post, protocols, post.agents()))
        self.assertGreater(fewer, 20)

    def test_brought_about_by_several(self):
        # What both parts do alike, and what a put does, too, is not counted.
        alike = Proto("alike", [(0, [], []), (0, [("label", 0)], [("label", 1)]), (1, [("label", 0)], [("label", 1)])])
        self.assertEqual(counted_moves(P, [alike], ["ann"]), [])
        self.assertEqual(counted_moves(P, [alike], ["ann", "bob"]), [34, 35])
        easy = Proto("easy", [(0, [], []), (1, [], [("word", 1)]), (1, [("word", 1)], [("word", 2)]), (1, [], [("seal", 1)])])
        rules = rules_of(P, [easy])
        told = counted_moves(P, [easy], ["bob"])
        self.assertEqual([rules[index][:2] for index in told], [([], [("seal", "bob")])])
        told = counted_moves(P, [easy], P.agents())
        self.assertEqual(len(told), 3)
        self.assertEqual(counted_moves(P, [], P.agents()), [])
        self.assertEqual(counted_moves(P, [strong], []), [])

    def test_wrong(self):
        for thing in list(things()) + [["ann", "ann"], ["zoe"], "ann", {"ann": 1}, ["ann", Odd()]]:
            with self.assertRaises(BadAgents) as caught:
                counted_moves(P, [strong], thing)
            self.assertIs(caught.exception.agents, thing)
            with self.assertRaises(BadAgents):
                answers_needed(P, [strong], [(ROW, 7)], thing)


class TestNeeded(unittest.TestCase):
    def test_by_costs(self):
        seen = set()
        for seed in range(250):
            chance = random.Random(seed)
            post, protocols, messages = random_question(chance)
            agents = [agent for agent in post.agents() if chance.random() < 0.6]
            counted = counted_moves(post, protocols, agents)
            rules = rules_of(post, protocols)
            found = [cost(rules, counted, layers) for layers, _ in messages]
            due = min([pair[0] for pair in found if pair is not None], default=None)
            told = answers_needed(post, protocols, messages, agents)
            self.assertEqual(told, due)
            seen.add(told)
            # None for all agents or for none; with more agents counted it is no less.
            every = answers_needed(post, protocols, messages, post.agents())
            self.assertEqual(told is None, every is None)
            self.assertEqual(told is None, fewest(post, protocols, messages) is None)
            if told is not None:
                self.assertLessEqual(told, every)
                self.assertEqual(answers_needed(post, protocols, messages, []), 0)
                more = Post(post.agents(), sorted(set(post.keyring()) | {("cipher", post.agents()[0])}))
                self.assertLessEqual(answers_needed(more, protocols, messages, agents), told)
                self.assertLessEqual(answers_needed(post, protocols, messages + [([("word", 1)], 0)], agents), told)
        self.assertLessEqual({None, 0, 1}, seen)

    def test_more_protocols(self):
        for seed in range(80):
            chance = random.Random(seed)
            protocols = [going_protocol(chance, name) for name in ("one", "two")]
            messages = first_messages(P, protocols[:1], "ann", "bob", 0)
            needed = [answers_needed(P, protocols[:many], messages, ["ann", "bob"]) for many in (1, 2)]
            self.assertTrue(needed[0] is None or needed[1] is not None and needed[1] <= needed[0])

    def test_edges(self):
        self.assertIsNone(answers_needed(P, [strong], [], ["ann"]))
        self.assertEqual(answers_needed(P, [strong], [([], 1)], ["ann"]), 0)
        with self.assertRaises(BadMessages):
            answers_needed(P, [strong], [([("cipher", "zoe")], 1)], None)
        with self.assertRaises(BadProtocols):
            answers_needed(P, [strong, strong], None, None)
        with self.assertRaises(BadPost):
            answers_needed(strong, None, None, None)


class TestRunMessages(unittest.TestCase):
    def test_by_deeds(self):
        many = 0
        for seed in range(200):
            chance = random.Random(seed)
            protocol = going_protocol(chance, "some")
            if goes_on(protocol) is not None:
                with self.assertRaises(BadProtocol) as caught:
                    run_messages(protocol, 1, 1, None)
                self.assertIs(caught.exception.protocol, protocol)
                with self.assertRaises(BadProtocol):
                    overheard(P, protocol, 1, 1)
                continue
            log = [("begin", "some", "ann", "bob", -3)]
            for number, (part, _, _) in list(enumerate(protocol.steps()))[1:]:
                who = ("ann", "bob") if part == 0 else ("bob", "ann")
                log.append(("answer", "some") + who + (number, number - 1))
            self.assertEqual(run_messages(protocol, "ann", "bob", -3), held_by(P, [protocol], log))
            many += len(log) > 2
        self.assertGreater(many, 20)

    def test_any_agents(self):
        self.assertEqual(run_messages(weak, "zoe", "yan", 0), [([("cipher", "yan")], 0), ([("cipher", "zoe")], 0)])
        for thing in list(things()) + ["Ann", "cipher", "a b", ""]:
            with self.assertRaises(BadAgent) as caught:
                run_messages(weak, thing, thing, thing)
            self.assertIs(caught.exception.agent, thing)
            with self.assertRaises(BadPartner) as caught:
                run_messages(weak, "ann", thing, thing)
            self.assertIs(caught.exception.partner, thing)
        with self.assertRaises(BadPartner):
            run_messages(weak, "ann", "ann", 0)
        for core in (True, None, "0", 0.0, [0], Odd()):
            with self.assertRaises(BadCore) as caught:
                run_messages(weak, "ann", "bob", core)
            self.assertIs(caught.exception.core, core)
        for protocol in (STUCK, None, [weak], "weak"):
            for call in (lambda thing: run_messages(thing, 0, 0, None), lambda thing: overheard(P, thing, 0, 0)):
                with self.assertRaises(BadProtocol) as caught:
                    call(protocol)
                self.assertIs(caught.exception.protocol, protocol)

    def test_told_lists(self):
        told = run_messages(protocol=strong, agent="ann", partner="bob", core=10 ** 30)
        for layers, _ in told:
            layers.clear()
        self.assertEqual(run_messages(strong, "ann", "bob", 10 ** 30)[0], (ROW, 10 ** 30))


class TestOverheard(unittest.TestCase):
    def test_by_answers_needed(self):
        seen = set()
        for seed in range(400):
            chance = random.Random(seed)
            protocol = going_protocol(chance, "some", 4, 2)
            if goes_on(protocol) is not None:
                continue
            agents = AGENTS[:3]
            keys = [("cipher", agents[2]), ("seal", agents[2])] + [("cipher", agent) for agent in agents[:2] if chance.random() < 0.4]
            post = Post(agents, keys)
            messages = run_messages(protocol, "ann", "bob", 0)
            free = [all(kind != "cipher" or (kind, whose) in keys for kind, whose in layers) for layers, _ in messages]
            told = overheard(post, protocol, "ann", "bob")
            self.assertEqual(told, free.index(True) if True in free else None)
            self.assertEqual(answers_needed(post, [protocol], messages, agents) == 0, told is not None)
            seen.add(told)
        self.assertLessEqual({None, 0, 1}, seen)

    def test_wrong(self):
        for thing in list(things()) + ["zoe", "Ann"]:
            with self.assertRaises(BadPost):
                overheard(thing, thing, thing, thing)
            with self.assertRaises(BadAgent) as caught:
                overheard(P, weak, thing, thing)
            self.assertIs(caught.exception.agent, thing)
            with self.assertRaises(BadPartner) as caught:
                overheard(P, weak, "ann", thing)
            self.assertIs(caught.exception.partner, thing)
        with self.assertRaises(BadPartner):
            overheard(P, weak, "ann", "ann")
        self.assertEqual(overheard(post=P, protocol=weak, agent="ann", partner="eve"), 0)
        self.assertEqual(overheard(P, weak, "eve", "ann"), 1)
        self.assertEqual(overheard(P, Proto("none", [(0, [], [])]), "ann", "bob"), 0)


class TestAll(unittest.TestCase):
    def test_lists_for_tuples(self):
        for kind in (listed, tupled):
            self.assertEqual(counted_moves(post=P, protocols=kind([strong]), agents=kind(["bob"])), [36, 37])
            self.assertEqual(answers_needed(post=P, protocols=kind([strong]), messages=kind([(ROW, 7)]), agents=kind(["bob"])), 1)

    def test_limits(self):
        begin = time.time()
        post = Post(AGENTS[:6], [("cipher", "ann"), ("seal", "ann")])
        for seed in range(4):
            chance = random.Random(seed)
            protocols = [random_protocol(chance, name, 8) for name in ("one", "two", "three", "four")]
            messages = first_messages(post, protocols, "bob", "cid", 0) * 2
            needed = answers_needed(post, protocols, messages, post.agents())
            self.assertEqual(needed is None, fewest(post, protocols, messages) is None)
            counted_moves(post, protocols, ["bob", "cid"])
        self.assertLess(time.time() - begin, 20)


if __name__ == "__main__":
    unittest.main()

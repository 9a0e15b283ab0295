"""Deeds, logs, and who is through: [6.1], [6.2], [6.3], [6.4], [6.5]."""

import random
import unittest

from roadheld.agents import Post
from roadheld.errors import BadLog, BadMessages
from roadheld.messages import message_text
from roadheld.posts import done, held_by, refused, through
from roadheld.protocols import Proto, read_protocol
from tests.calls import LOG
from tests.samples import AGENTS, G, H, T, things

HELD = [([("label", "ann"), ("cipher", "bob")], 0), ([("cipher", "eve")], 5), ([], 6), ([("label", "eve"), ("cipher", "bob")], 1)]
THREE = read_protocol("protocol three { 0 takes nothing puts cipher 1 ; 1 takes cipher 1 puts seal 1 , cipher 0 ; "
                      "0 takes cipher 0 , seal 1 puts word 1 ; 1 takes nothing puts label 0 ; }")


class TestDone(unittest.TestCase):
    def refused_as(self, deed, why):
        for passed in (deed, list(deed)):
            self.assertEqual(done(T, [G, THREE], HELD, passed), ("refused", why), deed)

    def held_as(self, deed, layers, core):
        self.assertEqual(done(T, [G, THREE], HELD, deed), ("held", (layers, core)), deed)

    def test_begins(self):
        self.held_as(("begin", "greet", "ann", "bob", -7), [("label", "ann"), ("cipher", "bob")], -7)
        self.held_as(("begin", "greet", "eve", "ann", 10 ** 12), [("label", "eve"), ("cipher", "ann")], 10 ** 12)
        self.held_as(("begin", "three", "bob", "eve", 0), [("cipher", "eve")], 0)
        for core in (True, None, "0", 0.0, [0]):
            self.refused_as(("begin", "greet", "ann", "bob", core), "form")
            self.refused_as(("begin", "none", "ann", "ann", core), "form")
        for name in ("none", None, 0, ["greet"], "Greet", {}):
            self.refused_as(("begin", name, "ann", "ann", 0), "protocol")
        for agent, partner in (("ann", "ann"), ("ann", "zoe"), ("zoe", "ann"), (None, "ann"), ("ann", 1), ("ann", ["bob"])):
            self.refused_as(("begin", "greet", agent, partner, 0), "agents")

    def test_answers(self):
        self.held_as(("answer", "greet", "bob", "ann", 1, 0), [("cipher", "ann")], 0)
        self.held_as(("answer", "greet", "bob", "eve", 1, 3), [("cipher", "eve")], 1)
        self.held_as(("answer", "three", "eve", "ann", 1, 1), [("seal", "eve"), ("cipher", "ann")], 5)
        self.held_as(("answer", "three", "eve", "bob", 3, 1), [("label", "bob"), ("cipher", "eve")], 5)
        self.held_as(("answer", "three", "eve", "bob", 3, 2), [("label", "bob")], 6)
        self.refused_as(("answer", "none", "ann", "ann", 0, 9), "protocol")
        self.refused_as(("answer", "greet", "ann", "ann", 0, 9), "agents")
        self.refused_as(("answer", "greet", "ann", "zoe", 0, 9), "agents")
        for step in (0, 2, -1, True, "1", None, 10 ** 3000):
            self.refused_as(("answer", "greet", "bob", "ann", step, 9), "step")
        for index in (4, -1, True, "0", None, 10 ** 3000):
            self.refused_as(("answer", "greet", "bob", "ann", 1, index), "index")
        self.refused_as(("answer", "greet", "ann", "bob", 1, 0), "top")
        self.refused_as(("answer", "greet", "bob", "ann", 1, 2), "top")
        self.refused_as(("answer", "greet", "bob", "ann", 1, 3), "top")

    def test_puts_and_takes(self):
        self.held_as(("put", ("cipher", "ann"), 2), [("cipher", "ann")], 6)
        self.held_as(("put", ["seal", "eve"], 1), [("seal", "eve"), ("cipher", "eve")], 5)
        self.held_as(("put", ("word", 9), 1), [("word", 9), ("cipher", "eve")], 5)
        self.held_as(("take", ("cipher", "eve"), 1), [], 5)
        self.held_as(("take", ("label", "ann"), 0), [("cipher", "bob")], 0)
        for word in ("put", "take"):
            for layer in (("label", "zoe"), ("word", 10), None, "label", ("label", "ann", 1), [], ("word", True)):
                self.refused_as((word, layer, 9), "layer")
            for index in (4, -1, False, "0", None):
                self.refused_as((word, ("seal", "bob"), index), "index")
        self.refused_as(("put", ("seal", "bob"), 0), "may")
        self.refused_as(("take", ("cipher", "bob"), 0), "may")
        self.refused_as(("take", ("cipher", "bob"), 2), "may")
        self.refused_as(("take", ("label", "bob"), 0), "top")
        self.refused_as(("take", ("label", "ann"), 2), "top")
        self.refused_as(("take", ("seal", "bob"), 0), "top")

    def test_own(self):
        self.held_as(("own", -3), [], -3)
        for core in (True, None, "1"):
            self.refused_as(("own", core), "form")

    def test_form(self):
        for deed in ((), ("own",), ("own", 1, 2), ("put", ("word", 1)), ("put", ("word", 1), 0, 0), ("answer", "greet"),
                     ("begin", "greet", "ann", "bob"), ("answer", "greet", "bob", "ann", 1), ("Own", 1), (1, 2), (["own"], 1),
                     ("begin", "greet", "ann", "bob", 0, 0), ("tell", 1), ("take", ("word", 1))):
            self.refused_as(deed, "form")
        for thing in things():
            self.assertEqual(done(T, [G], HELD, thing), ("refused", "form"))

    def test_any_object_anywhere(self):
        for deed in (("begin", "greet", "ann", "bob", 0), ("answer", "greet", "bob", "ann", 1, 0), ("put", ("word", 1), 0),
                     ("take", ("label", "ann"), 0), ("own", 0)):
            for at in range(len(deed)):
                for thing in things():
                    passed = list(deed)
                    passed[at] = thing
                    word = done(T, [G], HELD, passed)[0]
                    self.assertTrue(word == "refused" or deed[at] == 0 and isinstance(thing, int))

    def test_messages_are_of_the_post(self):
        self.assertRaises(BadMessages, done, T, [G], [([("label", "zoe")], 0)], ("own", 0))

    def test_nothing_is_held(self):
        self.assertEqual(done(T, [], [], ("put", ("word", 1), 0)), ("refused", "index"))
        self.assertEqual(done(T, [], [], ("begin", "greet", "ann", "bob", 0)), ("refused", "protocol"))


class TestLogs(unittest.TestCase):
    def test_example(self):
        self.assertEqual([message_text(message) for message in held_by(T, [G], LOG)],
                         ["label ann, cipher bob : 0", "cipher bob : 0", "label eve, cipher bob : 0", "cipher eve : 0",
                          "nothing : 0"])
        self.assertEqual(through(T, [G], LOG), [("greet", "ann", "bob", 0, 0), ("greet", "bob", "eve", 1, 3)])
        self.assertIsNone(refused(T, [G], LOG))
        wrong = LOG[:-1] + [("take", ("cipher", "bob"), 1)]
        self.assertEqual(refused(T, [G], wrong), (4, "may"))
        for function in (held_by, through):
            with self.assertRaises(BadLog) as caught:
                function(T, [G], wrong)
            self.assertIs(caught.exception.log, wrong)

    def test_first_refused_deed(self):
        self.assertEqual(refused(T, [G], [("own", 0), ("own", True), ("tell",)]), (1, "form"))
        self.assertEqual(refused(T, [G], [("own", 0), ("put", ("word", 1), 1)]), (1, "index"))
        for thing in things():
            if isinstance(thing, (list, tuple)):
                self.assertEqual(refused(T, [G], thing), (0, "form"))
            else:
                self.assertRaises(BadLog, refused, T, [G], thing)
        self.assertIsNone(refused(T, [G], []))
        self.assertEqual(held_by(T, [G], ()), [])

    def test_longer_logs_hold_what_beginnings_held(self):
        for length in range(len(LOG)):
            self.assertEqual(held_by(T, [G], LOG[:length]), held_by(T, [G], LOG)[:length])

    def test_logs_are_deeds_one_by_one(self):
        chance = random.Random(5)
        for _ in range(40):
            log, held = [], []
            while len(log) < 20:
                deed = chance.choice([
                    ("begin", chance.choice(["greet", "hide"]), chance.choice(T.agents()), chance.choice(T.agents()), len(log)),
                    ("answer", chance.choice(["greet", "hide"]), chance.choice(T.agents()), chance.choice(T.agents()), 1,
                     chance.randrange(len(held) + 1)),
                    (chance.choice(["put", "take"]), (chance.choice(["cipher", "label", "seal"]), chance.choice(T.agents())),
                     chance.randrange(len(held) + 1))])
                word, told = done(T, [G, H], held, deed)
                if word == "refused":
                    self.assertEqual(refused(T, [G, H], log + [deed]), (len(log), told))
                else:
                    log.append(deed)
                    held.append(told)
            self.assertEqual(held_by(T, [G, H], log), held)

    def test_limits(self):
        agents = AGENTS
        post = Post(agents, [("cipher", "pia"), ("seal", "pia")])
        takes = [("label", 0), ("word", 1), ("word", 2), ("word", 3), ("word", 4), ("label", 1)]
        long = Proto("long", [(0, [], takes)] + [(number % 2, takes, takes) for number in range(1, 8)])
        log = [("begin", "long", "ann", "bob", 10 ** 12)]
        log += [("answer", "long", ["ann", "bob"][step % 2], ["bob", "ann"][step % 2], step, step - 1) for step in range(1, 8)]
        log += [("put", ("cipher", agents[at % 16]), at) for at in range(7, 59)]
        self.assertEqual(len(log), 60)
        held = held_by(post, [long, G, H, THREE], log)
        self.assertEqual(len(held[-1][0]), 58)
        self.assertEqual(through(post, [long, G, H, THREE], log), [("long", "ann", "bob", 0, 6), ("long", "bob", "ann", 1, 7)])


class TestThrough(unittest.TestCase):
    def test_last_steps_of_each_part(self):
        log = [("begin", "three", "ann", "bob", 0), ("answer", "three", "bob", "ann", 1, 0), ("put", ("cipher", "ann"), 1),
               ("take", ("cipher", "bob"), 0)]
        self.assertEqual(refused(T, [THREE], log), (3, "may"))
        log = log[:2] + [("take", ("seal", "bob"), 1), ("answer", "three", "bob", "ann", 3, 2), ("own", 4),
                         ("put", ("seal", "eve"), 4), ("put", ("cipher", "ann"), 5), ("answer", "three", "ann", "eve", 2, 6)]
        self.assertEqual(through(T, [THREE], log), [("three", "bob", "ann", 1, 3), ("three", "ann", "eve", 0, 7)])

    def test_a_begin_is_a_last_step_if_there_is_no_other(self):
        twice = Proto("twice", [(0, [], [("word", 1)]), (0, [("word", 1)], [])])
        alone = Proto("alone", [(0, [], [("word", 1)])])
        log = [("begin", "twice", "ann", "bob", 0), ("begin", "alone", "bob", "ann", 0), ("answer", "twice", "eve", "bob", 1, 1)]
        self.assertEqual(through(T, [twice, alone], log), [("alone", "bob", "ann", 0, 1), ("twice", "eve", "bob", 0, 2)])


if __name__ == "__main__":
    unittest.main()

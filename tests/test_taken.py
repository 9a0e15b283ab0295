"""Taken for another's: [17.1] to [17.6]."""

import random
import time
import unittest

from roadheld.agents import Post
from roadheld.errors import BadAgent, BadMost, BadName, BadPart, BadPartner, BadPost, BadProtocols
from roadheld.posts import done, through
from roadheld.protocols import Proto, dealt, read_protocol
from roadheld.rules import rules_of
from roadheld.taken import attack_in, is_attack_in, is_paper_in, paper_in, rules_without, taken_in
from tests import plain
from tests.samples import AGENTS, Alike, Odd, P, deep, listed, things, tupled

KNOCK = read_protocol("protocol knock { 0 takes nothing puts cipher 1 , label 0 ; 1 takes cipher 1 , label 0 puts cipher 0 ; }")
SIGN = read_protocol("protocol sign { 0 takes nothing puts cipher 1 , seal 0 ; 1 takes cipher 1 , seal 0 puts cipher 0 ; }")
MARK = read_protocol("protocol mark { 0 takes nothing puts cipher 1 ; 1 takes cipher 1 puts seal 1 , cipher 0 ; }")
TWO = Post(["ann", "bob"], [("cipher", "bob"), ("seal", "bob")])


def random_sealing(chance, name, most=4):
    """A protocol by chance with seals."""
    steps = [(0, [], [("cipher", 1), ("seal", 0)])]
    for _ in range(chance.randint(1, most - 1)):
        part = chance.randrange(2)
        takes = [("cipher", part), ("seal", 1 - part), ("seal", 1 - part), ("seal", part), ("label", 0), ("word", 1)]
        puts = [("cipher", 1 - part), ("seal", part), ("seal", part), ("label", 0), ("word", 1)]
        steps.append((part, [chance.choice(takes) for _ in range(chance.randint(0, 3))], [chance.choice(puts) for _ in range(chance.randint(0, 3))]))
    return Proto(name, steps)


def last_number(protocol, part):
    numbers = [number for number, step in enumerate(protocol.steps()) if step[0] == part]
    return numbers[-1] if numbers else 0


def random_taken(chance):
    """A right question by chance."""
    while True:
        protocols = [random_sealing(chance, name) for name in ("one", "two")[:chance.randint(1, 2)]]
        part = chance.randrange(2)
        if last_number(protocols[0], part):
            return (protocols, "one", part) + tuple(chance.sample(P.agents(), 2))


def moves_of(post, protocols, name, agent, partner):
    """All moves but the answers of partner to agent in this protocol."""
    agents = post.agents()
    layers = [(kind, who) for kind in ("cipher", "seal", "label") for who in agents] + [("word", n) for n in range(10)]
    told = [(word, layer) for word in ("put", "take") for layer in layers]
    for protocol in protocols:
        for number in range(1, len(protocol.steps())):
            told += [("answer", protocol.name(), one, other, number) for one in agents for other in agents
                     if one != other and (protocol.name(), one, other) != (name, partner, agent)]
    return told


def fewest_slowly(post, protocols, name, part, agent, partner, most, longest):
    """The fewest moves by which the step is done, if they are few, and messages short on the way."""
    rules = {}
    for move in moves_of(post, protocols, name, agent, partner):
        if move[0] == "answer":
            step = [protocol.steps()[move[4]] for protocol in protocols if protocol.name() == move[1]][0]
            who = (move[2], move[3]) if step[0] == 0 else (move[3], move[2])
            rules[(tuple(dealt(step[1], *who)), tuple(dealt(step[2], *who)))] = True
        elif move[0] == "put" and (move[1][0] != "seal" or move[1] in post.keyring()):
            rules[((), (move[1],))] = True
        elif move[0] == "take" and (move[1][0] != "cipher" or move[1] in post.keyring()):
            rules[((move[1],), ())] = True
    protocol = [protocol for protocol in protocols if protocol.name() == name][0]
    step = protocol.steps()[last_number(protocol, part)]
    takes = tuple(dealt(step[1], *((agent, partner) if step[0] == 0 else (partner, agent))))
    useful = {layer for its, puts in rules for layer in its + puts if len(its) + len(puts) > 1} | set(takes)
    rules = [rule for rule in rules if len(rule[0]) + len(rule[1]) > 1 or set(rule[0] + rule[1]) <= useful]
    seen, edge = {()}, [()]
    for number in range(most):
        if any(row[:len(takes)] == takes for row in edge):
            return number + 1
        further = {puts + row[len(its):] for row in edge for its, puts in rules if row[:len(its)] == its}
        edge = [row for row in further if row not in seen and len(row) <= longest]
        seen |= set(edge)
    return None


class TestExample(unittest.TestCase):
    def test_words_of_the_example(self):
        self.assertEqual(taken_in(P, [KNOCK], "knock", 1, "bob", "ann"), 3)
        self.assertEqual(attack_in(P, [KNOCK], "knock", 1, "bob", "ann", 3),
                         [("put", ("label", "ann")), ("put", ("cipher", "bob")), ("answer", "knock", "bob", "ann", 1)])
        self.assertEqual(len(rules_without(P, [SIGN], "sign", "bob", "ann")), 39)
        self.assertIsNone(taken_in(P, [SIGN], "sign", 1, "bob", "ann"))
        self.assertEqual(taken_in(P, [SIGN, MARK], "sign", 1, "bob", "ann"), 4)
        attack = [("put", ("cipher", "ann")), ("answer", "mark", "ann", "bob", 1), ("put", ("cipher", "bob")), ("answer", "sign", "bob", "ann", 1)]
        self.assertIs(is_attack_in(P, [SIGN, MARK], "sign", 1, "bob", "ann", attack), True)
        with self.assertRaises(BadPart) as caught:
            taken_in(P, [SIGN], "sign", 0, "bob", "ann")
        self.assertEqual(caught.exception.part, 0)


class TestRulesWithout(unittest.TestCase):
    def test_by_trying(self):
        fewer = same = 0
        for seed in range(150):
            protocols, name, _, agent, partner = random_taken(random.Random(seed))
            told = rules_without(P, protocols, name, agent, partner)
            due = []
            rules = {(tuple(takes), tuple(puts)) for takes, puts, _ in rules_of(P, protocols)}
            for takes, puts, move in self.all_rules(P, protocols):
                self.assertIn((tuple(takes), tuple(puts)), rules)
                barred = move[:4] == ("answer", name, partner, agent)
                if not barred and not any(rule[:2] == (takes, puts) for rule in due):
                    due.append((takes, puts, move))
            self.assertEqual(told, due)
            fewer += len(told) < len(rules)
            same += told != rules_of(P, protocols) and len(told) == len(rules)
        self.assertGreater(fewer, 20)
        self.assertGreater(same, 0)

    def all_rules(self, post, protocols):
        """The rules of all moves, in the order of [7.3], also those that take and put the same."""
        layers = sorted([(kind, who) for kind in ("cipher", "seal", "label") for who in post.agents()]) + [("word", n) for n in range(10)]
        told = [([], [layer], ("put", layer)) for layer in layers if layer[0] != "seal" or layer in post.keyring()]
        told += [([layer], [], ("take", layer)) for layer in layers if layer[0] != "cipher" or layer in post.keyring()]
        for protocol in protocols:
            for agent in post.agents():
                for partner in post.agents():
                    for number, (part, takes, puts) in list(enumerate(protocol.steps()))[1:]:
                        who = (agent, partner) if part == 0 else (partner, agent)
                        if agent != partner:
                            told.append((dealt(takes, *who), dealt(puts, *who), ("answer", protocol.name(), agent, partner, number)))
        return told


class TestTakenIn(unittest.TestCase):
    def test_by_trying(self):
        seen = set()
        for seed in range(60):
            chance = random.Random(seed)
            question = random_taken(chance)
            told = taken_in(P, *question)
            due = fewest_slowly(P, *question, 4, 9)
            if told is None or told > 4:
                self.assertIsNone(due)
            else:
                self.assertEqual(told, due)
            seen.add(told)
        self.assertLessEqual({None, 1, 2, 3}, seen)

    def test_just_one(self):
        attacks = papers = 0
        for seed in range(250):
            chance = random.Random(seed)
            question = random_taken(chance)
            number = taken_in(P, *question)
            paper = paper_in(P, *question)
            self.assertEqual(number is None, paper is not None)
            attack = attack_in(P, *question, 200)
            if number is None:
                self.assertIsNone(attack)
                self.assertIs(is_paper_in(P, *question, paper), True)
                self.is_paper(question, paper)
                papers += 1
                continue
            attacks += 1
            self.assertEqual(len(attack), number)
            self.assertIs(is_attack_in(P, *question, attack), True)
            self.assertIsNone(attack_in(P, *question, number - 1))
            self.assertEqual(attack_in(P, *question, number), attack)
            # The same deeds, from the adversary's own message on: the agent is through, the partner did no step.
            log = [("own", 5)] + [move + (at,) for at, move in enumerate(attack)]
            protocols, name, part, agent, partner = question
            self.assertIn((name, agent, partner, part, len(attack)), through(P, protocols, log))
            self.assertFalse([deed for deed in log if deed[:4] == ("answer", name, partner, agent)])
        self.assertGreater(attacks, 50)
        self.assertGreater(papers, 30)

    def is_paper(self, question, machine):
        protocols, name, part, agent, partner = question
        self.assertTrue(plain.is_taken(machine, []))
        for rule in rules_without(P, protocols, name, agent, partner):
            self.assertTrue(plain.is_kept(machine, rule))
        step = protocols[0].steps()[last_number(protocols[0], part)]
        here = plain.led(machine, machine[1], dealt(step[1], *((agent, partner) if part == 0 else (partner, agent))))
        onward = set(here)
        while True:
            more = {t for s, _, t in machine[2] if s in onward} | onward
            if more == onward:
                break
            onward = more
        self.assertFalse(onward & set(machine[3]))

    def test_no_seal(self):
        # Without a seal whose key the adversary has not it is a put for each layer, and the step, at most.
        for seed in range(200):
            chance = random.Random(seed)
            protocols, name, part, agent, partner = random_taken(chance)
            step = protocols[0].steps()[last_number(protocols[0], part)]
            takes = dealt(step[1], *((agent, partner) if part == 0 else (partner, agent)))
            if all(kind != "seal" or (kind, whose) in P.keyring() for kind, whose in takes):
                self.assertLessEqual(taken_in(P, protocols, name, part, agent, partner), len(takes) + 1)

    def test_honest_agents_are_alike(self):
        post = Post(["ann", "bob", "cid", "eve"], [("cipher", "eve"), ("seal", "eve")])
        for seed in range(40):
            protocols, name, part, _, _ = random_taken(random.Random(seed))
            told = {taken_in(post, protocols, name, part, one, other) for one in ("ann", "bob", "cid") for other in ("ann", "bob", "cid") if one != other}
            self.assertEqual(len(told), 1)

    def test_among_others(self):
        # Alone it may be safe, among others not; and never the other way.
        apart = 0
        for seed in range(150):
            chance = random.Random(seed)
            protocols, name, part, agent, partner = random_taken(chance)
            alone = taken_in(P, protocols[:1], name, part, agent, partner)
            among = taken_in(P, protocols + [MARK], name, part, agent, partner)
            self.assertTrue(alone is None or among is not None and among <= alone)
            apart += alone is None and among is not None
        self.assertGreater(apart, 3)

    def test_what_lies_beneath(self):
        # The message may have more layers than the step takes.
        junk = Proto("junk", [(0, [], []), (1, [("word", 1)], [("seal", 1), ("cipher", 0), ("word", 2), ("word", 3)])])
        need = Proto("need", [(0, [], []), (1, [("seal", 0), ("cipher", 1)], [])])
        self.assertEqual(taken_in(P, [need, junk], "need", 1, "bob", "ann"), 3)
        attack = attack_in(P, [need, junk], "need", 1, "bob", "ann", 3)
        self.assertEqual(attack, [("put", ("word", 1)), ("answer", "junk", "ann", "bob", 1), ("answer", "need", "bob", "ann", 1)])
        easy = Proto("easy", [(0, [], []), (1, [], [])])
        self.assertEqual(attack_in(P, [easy], "easy", 1, "bob", "ann", 1), [("answer", "easy", "bob", "ann", 1)])

    def test_own_answers_count(self):
        # The agent itself may answer the partner before; the partner may answer others.
        self.assertEqual(taken_in(TWO, [SIGN], "sign", 1, "ann", "bob"), 3)
        self.assertIsNone(taken_in(TWO, [SIGN], "sign", 1, "bob", "ann"))


class TestIsAttackIn(unittest.TestCase):
    question = ([SIGN, MARK], "sign", 1, "bob", "ann")
    right = [("put", ("cipher", "ann")), ("answer", "mark", "ann", "bob", 1), ("put", ("cipher", "bob")), ("answer", "sign", "bob", "ann", 1)]

    def is_right(self, moves):
        """Whether right or wrong moves are an attack, deed by deed."""
        if not isinstance(moves, (list, tuple)) or not moves:
            return False
        layers = []
        for move in moves:
            if not isinstance(move, (list, tuple)) or not move or move[0] not in ("put", "take", "answer"):
                return False
            told = done(P, self.question[0], [(layers, 0)], list(move) + [0])
            if told[0] != "held" or list(move[:4]) == ["answer", "sign", "ann", "bob"]:
                return False
            layers = told[1][0]
        return list(moves[-1]) == ["answer", "sign", "bob", "ann", 1]

    def test_bent(self):
        right = 0
        for thing in plain.bent(self.right, ["ann", "bob", "eve", "put", "take", "sign", "mark", 0, 1, True, None, ("put", ("word", 1))]):
            self.assertIs(is_attack_in(P, *self.question, thing), self.is_right(thing), thing)
            right += self.is_right(thing)
        longer = [("put", ("word", 1)), ("take", ("word", 1))] * 3 + self.right
        for thing in (longer, listed(longer), tupled(longer), self.right[:3] * 1 + [("put", ("word", 1)), ("take", ("word", 1))] + self.right[3:]):
            self.assertIs(is_attack_in(P, *self.question, thing), True)
        # Those answers do not count that the partner gave to the agent.
        helped = [("put", ("seal", "eve")), ("put", ("cipher", "ann"))]
        barred = helped + [("answer", "sign", "ann", "eve", 1), ("put", ("word", 1))]
        self.assertIs(is_attack_in(P, *self.question, barred), False)
        self.assertIs(is_attack_in(P, *self.question, self.right + [("put", ("word", 1))]), False)

    def test_barred(self):
        # An answer of the partner to the agent is none of an attack, one to another agent is.
        proto = Proto("both", [(0, [], []), (0, [], [("seal", 0)]), (1, [("seal", 0)], [])])
        self.assertIs(is_attack_in(P, [proto], "both", 1, "bob", "ann", [("answer", "both", "ann", "bob", 1), ("answer", "both", "bob", "ann", 2)]), False)
        other = [("answer", "both", "ann", "eve", 1), ("answer", "both", "bob", "ann", 2)]
        self.assertIs(is_attack_in(P, [proto], "both", 1, "bob", "ann", other), True)
        self.assertEqual(attack_in(P, [proto], "both", 1, "bob", "ann", 2), other)

    def test_any_object(self):
        for thing in things() + [deep(), [deep()], [Odd()], [("put", Odd())], [Alike()], {0: self.right}, [self.right], []]:
            self.assertIs(is_attack_in(P, *self.question, thing), False)
            self.assertIs(is_paper_in(P, *self.question, thing), False)


class TestPapers(unittest.TestCase):
    def test_bent(self):
        question = ([SIGN], "sign", 1, "bob", "ann")
        paper = paper_in(P, *question)
        for thing in plain.bent(paper, [0, 1, 2, True, None, ("seal", "ann"), "ann"]):
            if is_paper_in(P, *question, thing):
                machine = (thing[0], list(thing[1]), [(s, tuple(layer), t) for s, layer, t in thing[2]], list(thing[3]))
                TestTakenIn.is_paper(self, question, machine)
        loose = (1, [0], [(0, layer, 0) for layer in [("cipher", who) for who in P.agents()] + [("label", who) for who in P.agents()]
                          + [("seal", "bob"), ("seal", "eve")] + [("word", n) for n in range(10)]], [0])
        self.assertIs(is_paper_in(P, *question, loose), True)
        self.assertIs(is_paper_in(P, *question, (1, [0], loose[2][:6] + [("seal", "ann")] + loose[2][6:], [0])), False)
        more = (1, [0], sorted(loose[2] + [(0, ("seal", "ann"), 0)]), [0])
        self.assertIs(is_paper_in(P, *question, more), False)
        self.assertIs(is_paper_in(P, *question, (1, [0], loose[2], [])), False)
        self.assertIs(is_paper_in(P, *question, (1, [0], loose[2][1:], [0])), False)
        zoe = (1, [0], sorted(loose[2] + [(0, ("seal", "zoe"), 0)]), [0])
        self.assertIs(is_paper_in(P, *question, zoe), True)


class TestWrong(unittest.TestCase):
    calls = [lambda *told: rules_without(told[0], told[1], told[2], told[4], told[5]), taken_in, lambda *told: attack_in(*told, 3),
             lambda *told: is_attack_in(*told, None), paper_in, lambda *told: is_paper_in(*told, None)]

    def test_each(self):
        for call in self.calls:
            for thing in things() + ["zoe", "Ann"]:
                with self.assertRaises(BadPost):
                    call(thing, thing, thing, thing, thing, thing)
                with self.assertRaises(BadProtocols):
                    call(P, [thing], thing, thing, thing, thing)
                with self.assertRaises(BadName) as caught:
                    call(P, [SIGN], thing, thing, thing, thing)
                self.assertIs(caught.exception.name, thing)
                with self.assertRaises(BadAgent) as caught:
                    call(P, [SIGN], "sign", 1, thing, thing)
                self.assertIs(caught.exception.agent, thing)
                with self.assertRaises(BadPartner) as caught:
                    call(P, [SIGN], "sign", 1, "ann", thing)
                self.assertIs(caught.exception.partner, thing)
            with self.assertRaises(BadPartner):
                call(P, [SIGN], "sign", 1, "ann", "ann")

    def test_parts(self):
        three = Proto("three", [(0, [], []), (0, [("word", 1)], [])])
        for call in self.calls[1:]:
            for part in things() + [2, 0]:
                with self.assertRaises(BadPart) as caught:
                    call(P, [SIGN], "sign", part, None, None)
                self.assertIs(caught.exception.part, part)
            with self.assertRaises(BadPart):
                call(P, [three], "three", 1, None, None)
            call(P, [three], "three", 0, "ann", "bob")
        for thing in things():
            with self.assertRaises(BadMost) as caught:
                attack_in(P, [SIGN], "sign", 1, "ann", "bob", thing)
            self.assertIs(caught.exception.most, thing)
        # Of the last step of a part more than one step ahead counts.
        self.assertEqual(taken_in(P, [three], "three", 0, "ann", "bob"), 2)

    def test_names(self):
        question = {"post": P, "protocols": ([KNOCK],)[0], "name": "knock", "part": 1, "agent": "bob", "partner": "ann"}
        self.assertEqual(taken_in(**question), 3)
        self.assertEqual(len(attack_in(most=5, **question)), 3)
        self.assertIs(is_attack_in(thing=attack_in(most=5, **question), **question), True)
        self.assertIsNone(paper_in(**question))
        self.assertIs(is_paper_in(thing=None, **question), False)
        del question["part"]
        self.assertEqual(len(rules_without(**question)), 39)

    def test_limits(self):
        begin = time.time()
        post = Post(AGENTS[:6], [("cipher", "cid"), ("seal", "cid"), ("cipher", "dan")])
        for seed in range(4):
            chance = random.Random(seed)
            protocols = [random_sealing(chance, name, 8) for name in ("one", "two", "three", "four")]
            part = 1 if last_number(protocols[0], 1) else 0
            question = (protocols, "one", part, "ann", "bob")
            number = taken_in(post, *question)
            self.assertEqual(number is None, paper_in(post, *question) is not None)
            if number is not None:
                self.assertIs(is_attack_in(post, *question, attack_in(post, *question, number)), True)
        self.assertLess(time.time() - begin, 30)


if __name__ == "__main__":
    unittest.main()

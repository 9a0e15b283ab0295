"""Several protocols: [15.1], [15.2], [15.5], [15.6], and what [15.7] says of them; lots across the sections."""

import itertools
import random
import time
import unittest

from roadheld.agents import Post
from roadheld.answers import answer_for
from roadheld.attacks import attack_of
from roadheld.charts import chart
from roadheld.errors import BadKeys, BadName, BadOne, BadPost, BadProtocols, BadZero
from roadheld.exchange import agents_in, exchanged, fewer
from roadheld.keylots import greatest_standing, least_breaking, with_keys
from roadheld.ledover import paper_over
from roadheld.meetings import meeting
from roadheld.papers import is_paper
from roadheld.protocollots import falls, first_falling, greatest_lasting, least_falling, least_mixed, used_protocols
from roadheld.protocols import Proto
from roadheld.refusals import BadAttack, BadNames
from roadheld.rules import first_messages, rules_of
from roadheld.wordsapart import parted
from tests.samples import AGENTS, Alike, G, Odd, P, listed, random_question, things, tupled, weak
from tests.test_wordsapart import MARK, PEEL, random_worded

KEYS = [("cipher", "ann"), ("cipher", "bob")]


def sublists(row):
    return [list(part) for many in range(len(row) + 1) for part in itertools.combinations(sorted(row), many)]


def random_together(chance, most=3):
    """Protocols by chance some of which fall together, some do not."""
    letters = [("cipher", 0), ("cipher", 1), ("label", 0), ("word", 0), ("word", 1)]
    protocols = []
    for name in AGENTS[:chance.randint(1, most)]:
        steps = [(0, [], [("cipher", 1)] + [chance.choice(letters) for _ in range(chance.randint(0, 2))])]
        for _ in range(chance.randint(0, 2)):
            takes = [("cipher", 1)] + [chance.choice(letters[1:]) for _ in range(chance.randint(0, 2))]
            steps.append((1, takes, [chance.choice(letters) for _ in range(chance.randint(0, 2))]))
        protocols.append(Proto(name, steps))
    return chance.sample(protocols, len(protocols))


def fall_slowly(post, protocols, names, zero="ann", one="bob"):
    its = [protocol for protocol in protocols if protocol.name() in names]
    return answer_for(post, its, first_messages(post, its, zero, one, 3))[0] == "bare"


class TestExample(unittest.TestCase):
    def test_mark_and_peel(self):
        both = [MARK, PEEL]
        for names, due in (([], False), (["mark"], False), (["peel"], False), (["peel", "mark"], True)):
            self.assertIs(falls(P, both, "ann", "bob", names), due)
        self.assertEqual(least_falling(P, both, "ann", "bob"), [["mark", "peel"]])
        self.assertEqual(greatest_lasting(P, both, "ann", "bob"), [["mark"], ["peel"]])
        self.assertEqual(first_falling(P, both, "ann", "bob"), 2)
        self.assertEqual(least_falling(P, parted(both), "ann", "bob"), [])
        self.assertIsNone(first_falling(P, parted(both), "ann", "bob"))
        self.assertEqual(least_mixed(P, both, "ann", "bob", KEYS), [(["mark"], KEYS), (["mark", "peel"], []), (["peel"], KEYS[:1])])


class TestLots(unittest.TestCase):
    def test_by_trying(self):
        seen = set()
        for seed in range(150):
            chance = random.Random(seed)
            protocols = random_together(chance)
            zero, one = chance.sample(P.agents(), 2)
            names = [protocol.name() for protocol in protocols]
            fallen = [part for part in sublists(names) if fall_slowly(P, protocols, part, zero, one)]
            for part in sublists(names):
                self.assertIs(falls(P, protocols, zero, one, chance.sample(part, len(part))), part in fallen)
            least = sorted(part for part in fallen if not any(set(other) < set(part) for other in fallen))
            self.assertEqual(least_falling(P, protocols, zero, one), least)
            lasting = [part for part in sublists(names) if part not in fallen]
            greatest = sorted(part for part in lasting if not any(set(other) > set(part) for other in lasting))
            self.assertEqual(greatest_lasting(P, protocols, zero, one), greatest)
            # What is left beside the greatest ones meets each of the least.
            left = sorted(sorted(set(names) - set(part)) for part in greatest)
            self.assertEqual(meeting(names, least), left)
            prefixes = [many for many in range(len(names) + 1) if sorted(names[:many]) in fallen]
            self.assertEqual(first_falling(P, protocols, zero, one), prefixes[0] if prefixes else None)
            seen.update(len(part) for part in least)
        self.assertLessEqual({1, 2}, seen)

    def test_mixed_by_trying(self):
        seen = set()
        for seed in range(100):
            chance = random.Random(seed)
            protocols = random_together(chance)
            names = [protocol.name() for protocol in protocols]
            keys = chance.sample([("cipher", "ann"), ("seal", "ann"), ("cipher", "bob"), ("seal", "bob")], chance.randint(0, 3))
            fallen = [(part, lot) for part in sublists(names) for lot in sublists(keys)
                      if fall_slowly(with_keys(P, lot), protocols, part)]
            least = [(part, lot) for part, lot in fallen if not any(
                set(other) <= set(part) and set(its) <= set(lot) and (other, its) != (part, lot) for other, its in fallen)]
            told = least_mixed(P, protocols, "ann", "bob", keys)
            self.assertEqual(told, sorted(least))
            self.assertEqual([part for part, lot in told if not lot], least_falling(P, protocols, "ann", "bob"))
            seen.update((len(part), len(lot)) for part, lot in told)
        self.assertLessEqual({(1, 0), (1, 1), (2, 0)}, seen)

    def test_edges(self):
        self.assertEqual(least_falling(P, [], "ann", "bob"), [])
        self.assertEqual(greatest_lasting(P, [], "ann", "bob"), [[]])
        self.assertEqual(least_mixed(P, [], "ann", "bob", KEYS), [])
        self.assertIsNone(first_falling(P, [], "ann", "bob"))
        self.assertIs(falls(P, [], "ann", "bob", []), False)
        empty = Proto("empty", [(0, [], [])])
        self.assertEqual(least_falling(P, [MARK, empty], "ann", "bob"), [["empty"]])
        self.assertEqual(first_falling(P, [MARK, empty, PEEL], "ann", "bob"), 2)
        self.assertEqual(least_mixed(P, [empty], "ann", "bob", KEYS), [(["empty"], [])])
        # To eve herself all is open.
        self.assertEqual(least_falling(P, [weak, MARK], "ann", "eve"), [["weak"]])


class TestUsedProtocols(unittest.TestCase):
    def test_attacks(self):
        used = 0
        for seed in range(200):
            chance = random.Random(seed)
            protocols = random_together(chance, 4)
            for part in least_falling(P, protocols, "ann", "bob"):
                its = [protocol for protocol in protocols if protocol.name() in part]
                attack = attack_of(P, its, first_messages(P, its, "ann", "bob", 0), 300)
                if attack[0] == "long":
                    continue
                told = used_protocols(protocols, attack, its[attack[0]].name())
                self.assertEqual(told, part)
                self.assertIs(falls(P, protocols, "ann", "bob", told), True)
                used += 1
        self.assertGreater(used, 50)

    def test_by_hand(self):
        moves = [("put", ("seal", "zoe")), ("answer", "peel", "ann", "ann", 0), ["answer", "mark", "x", "y", 10 ** 30], ("take", ["word", 3])]
        self.assertEqual(used_protocols([MARK, PEEL, G], (99, moves), "mark"), ["mark", "peel"])
        self.assertEqual(used_protocols([PEEL, MARK, G], [0, ()], "greet"), ["greet"])
        self.assertEqual(used_protocols(protocols=[MARK, PEEL, G], attack=listed((0, moves)), begun="greet"), ["greet", "mark", "peel"])

    def test_wrong(self):
        right = ("answer", "mark", "ann", "bob", 1)
        wrong = [(0, [("answer", "peel", "ann", "bob", 1)]), (0, [right, ("answer", "mark", "ann", "bob", -1)]), (0, [("put", ("word", 10))]),
                 (0, [right + (0,)]), (0, [("answer", "mark", "Ann", "bob", 1)]), (0, [("own", 1)]), (-1, []), (True, []), (0, [], []),
                 (0, {}), [0], (0, [("answer", Odd(), "ann", "bob", 1)]), (0, [("answer", "mark", "ann", Alike(), 1)]), ("0", []),
                 (0, [("begin", "mark", "ann", "bob", 1)]), (0, [("put", ("word", 1), 0)]), (0, [right, None])]
        for attack in wrong + things():
            with self.assertRaises(BadAttack) as caught:
                used_protocols([MARK], attack, "peel")
            self.assertIs(caught.exception.attack, attack)
        for name in things() + ["peel", ["mark"], "Mark"]:
            with self.assertRaises(BadName) as caught:
                used_protocols([MARK], (0, [right]), name)
            self.assertIs(caught.exception.name, name)
            with self.assertRaises(BadProtocols):
                used_protocols([MARK, MARK], None, name)


class TestWrong(unittest.TestCase):
    calls = [lambda *told: falls(*told, []), least_falling, greatest_lasting, first_falling, lambda *told: least_mixed(*told, [])]

    def test_each(self):
        for call in self.calls:
            for thing in things() + ["zoe", "Ann"]:
                with self.assertRaises(BadPost):
                    call(thing, thing, thing, thing)
                with self.assertRaises(BadProtocols):
                    call(P, [thing], thing, thing)
                with self.assertRaises(BadZero) as caught:
                    call(P, [MARK], thing, thing)
                self.assertIs(caught.exception.zero, thing)
                with self.assertRaises(BadOne) as caught:
                    call(P, [MARK], "ann", thing)
                self.assertIs(caught.exception.one, thing)
            with self.assertRaises(BadOne):
                call(P, [MARK], "ann", "ann")

    def test_names_and_keys(self):
        for names in things() + ["mark", ["mark", "mark"], ["zoe"], ["mark", "peel"], ["mark", Alike()], [["mark"]], {"mark": 1}, ["mark", None]]:
            with self.assertRaises(BadNames) as caught:
                falls(P, [MARK], "ann", "bob", names)
            self.assertIs(caught.exception.names, names)
        for keys in things() + [[("cipher", "eve")], [("label", "ann")], [("seal", "zoe")], KEYS * 2, ("cipher", "ann"), [KEYS]]:
            with self.assertRaises(BadKeys) as caught:
                least_mixed(P, [MARK], "ann", "bob", keys)
            self.assertIs(caught.exception.keyring, keys)

    def test_lists_for_tuples(self):
        for kind in (listed, tupled):
            both = kind([PEEL, MARK])
            self.assertIs(falls(post=P, protocols=both, zero="ann", one="bob", names=kind(["peel", "mark"])), True)
            self.assertEqual(least_falling(post=P, protocols=both, zero="ann", one="bob"), [["mark", "peel"]])
            self.assertEqual(greatest_lasting(post=P, protocols=both, zero="ann", one="bob"), [["mark"], ["peel"]])
            self.assertEqual(first_falling(post=P, protocols=both, zero="ann", one="bob"), 2)
            told = least_mixed(post=P, protocols=both, zero="ann", one="bob", keys=kind(KEYS[::-1]))
            self.assertEqual(told, [(["mark"], KEYS), (["mark", "peel"], []), (["peel"], KEYS[:1])])
            for names, keys in told:
                names.clear()
                keys.clear()
        self.assertEqual(KEYS, [("cipher", "ann"), ("cipher", "bob")])


class TestAcross(unittest.TestCase):
    def test_lots_however_many_agents(self):
        moved = 0
        for seed in range(80):
            chance = random.Random(seed)
            post, protocols, messages = random_question(chance)
            agents = agents_in(messages)
            lost = [agent for agent in post.agents() if {("cipher", agent), ("seal", agent)} <= set(post.keyring())][0]
            small = fewer(post, agents, lost)
            more = Post(post.agents() + ["zoe", "yan"], post.keyring())
            keys = [(kind, agent) for agent in agents for kind in ("cipher", "seal") if (kind, agent) not in post.keyring()][:4]
            least = least_breaking(small, protocols, messages, keys)
            self.assertEqual(least_breaking(post, protocols, messages, keys), least)
            self.assertEqual(least_breaking(more, protocols, messages, keys), least)
            self.assertEqual(greatest_standing(more, protocols, messages, keys), greatest_standing(small, protocols, messages, keys))
            # A chart's papers, led over to all agents, are papers.
            for lot, answer in chart(small, protocols, exchanged(post, agents, lost, messages), keys)[1]:
                given = with_keys(post, lot)
                self.assertTrue(is_paper(rules_of(given, protocols), messages, paper_over(given, agents, lost, answer[1])))
                moved += 1
        self.assertGreater(moved, 30)

    def test_words_apart(self):
        fewer_fall = 0
        for seed in range(150):
            chance = random.Random(seed)
            protocols = [random_worded(chance, name) for name in ("one", "two", "three")[:chance.randint(1, 3)]]
            if seed % 5 == 0:
                protocols = chance.sample([MARK, PEEL] + protocols[:1], chance.randint(2, 3))
            if len({(proto.name(), word) for proto in protocols for _, takes, puts in proto.steps()
                    for kind, word in takes + puts if kind == "word"}) > 10:
                continue
            apart = least_falling(P, parted(protocols), "ann", "bob")
            least = least_falling(P, protocols, "ann", "bob")
            for names in apart:
                self.assertTrue(any(set(part) <= set(names) for part in least))
                self.assertIs(falls(P, protocols, "ann", "bob", names), True)
            # Lots of keys that break with words apart break as the words were.
            messages = first_messages(P, protocols, "ann", "bob", 0)
            its = first_messages(P, parted(protocols), "ann", "bob", 0)
            broken = least_breaking(P, protocols, messages, KEYS)
            for lot in least_breaking(P, parted(protocols), its, KEYS):
                self.assertTrue(any(set(other) <= set(lot) for other in broken))
            fewer_fall += apart != least
        self.assertGreater(fewer_fall, 5)


class TestLimits(unittest.TestCase):
    def test_great_protocols(self):
        post = Post(["ann", "bob", "cid", "dan", "eve"], [("cipher", "eve"), ("seal", "eve")])
        begin = time.time()
        for seed in range(3):
            chance = random.Random(seed)
            protocols = []
            for name in ("one", "two", "three", "four"):
                steps = [(0, [], [("cipher", 1), ("label", 0)])]
                for at in range(1, 8):
                    part = at % 2
                    takes = [("cipher", part), ("label", 0), ("label", 1), ("seal", 1 - part), ("word", chance.randrange(10))]
                    puts = [("cipher", 0), ("cipher", 1), ("label", 0), ("seal", part), ("word", chance.randrange(10))]
                    steps.append((part, [chance.choice(takes) for _ in range(chance.randint(1, 6))],
                                  [chance.choice(puts) for _ in range(chance.randint(0, 6))]))
                protocols.append(Proto(name, steps))
            least = least_falling(post, protocols, "ann", "bob")
            mixed = least_mixed(post, protocols, "ann", "bob", KEYS)
            self.assertEqual([names for names, keys in mixed if not keys], least)
            number = first_falling(post, protocols, "ann", "bob")
            self.assertEqual(number is None, not least)
        self.assertLess(time.time() - begin, 30)


if __name__ == "__main__":
    unittest.main()

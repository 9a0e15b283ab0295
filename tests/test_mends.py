"""Mends: [16.1], [16.2], [16.3], and what [16.9] says of them."""

import itertools
import random
import time
import unittest

from roadheld.errors import BadLayers, BadProtocol, BadSteps
from roadheld.mends import goes_on, mended, mends
from roadheld.protocols import Proto
from roadheld.refusals import BadMend
from tests import plain
from tests.samples import G, Alike, Odd, deep, listed, random_protocol, strong, things, tupled, weak

L = [("label", 0), ("seal", 0), ("word", 1)]
SOME = [("cipher", 0), ("cipher", 1), ("label", 0), ("seal", 0), ("seal", 1), ("word", 0)]


def going_protocol(chance, name, many=4, most=3):
    """A protocol by chance that goes on, mostly."""
    steps = [(0, [], [chance.choice([("cipher", 1), ("label", 0), ("word", 1), ("seal", 0)]) for _ in range(chance.randint(0, most))])]
    for at in range(1, chance.randint(1, many)):
        part = at % 2 if chance.random() < 0.9 else 1 - at % 2
        takes = list(steps[-1][2][:chance.randint(0, most)])
        if ("cipher", 1 - part) in takes:
            takes = takes[:takes.index(("cipher", 1 - part))]
        if chance.random() < 0.2:
            takes.append(("label", part))
        puts = [("cipher", 0), ("cipher", 1), ("label", 0), ("seal", part), ("word", 1)]
        steps.append((part, takes, [chance.choice(puts) for _ in range(chance.randint(0, most))]))
    return Proto(name, steps)


def mended_slowly(protocol, mend):
    """What comes of a mend, as [16.2] says, None if there is nothing."""
    steps = [(part, list(takes), list(puts)) for part, takes, puts in protocol.steps()]
    word, index, place, last = mend
    lists = [steps[index][2]] + ([steps[index + 1][1]] if index + 1 < len(steps) else [])
    for row in lists:
        if word == "add":
            if place > len(row):
                return None
            row.insert(place, last)
        else:
            if place >= len(row) or last >= len(row) or place == last:
                return None
            row.insert(last, row.pop(place))
    try:
        return Proto(protocol.name(), steps)
    except BadSteps:
        return None


def all_mends(protocol, layers):
    """All mends, tried one by one, that make something new."""
    found, made = [], [protocol]
    tried = [("add", index, place, layer) for index in range(6) for place in range(8) for layer in layers]
    tried += [("shift", index, place, to) for index in range(6) for place in range(8) for to in range(8)]
    for mend in sorted(tried, key=lambda mend: (mend[0], mend[1], mend[2], mend[3])):
        if mend[1] < len(protocol.steps()):
            other = mended_slowly(protocol, mend)
            if other is not None and other not in made:
                made.append(other)
                found.append(mend)
    return found


class TestExample(unittest.TestCase):
    def test_weak_and_strong(self):
        self.assertIsNone(goes_on(weak))
        self.assertIsNone(goes_on(strong))
        self.assertEqual(len(mends(weak, L)), 10)
        self.assertEqual(len(mends(strong, L)), 23)
        self.assertIn(("add", 0, 1, ("label", 0)), mends(weak, L))
        self.assertIn(("shift", 0, 1, 2), mends(strong, L))
        self.assertEqual(len([mend for mend in mends(strong, L) if mend[:3] == ("add", 0, 3)]), 3)


class TestGoesOn(unittest.TestCase):
    def test_by_hand(self):
        first = (0, [], [("cipher", 1), ("label", 0)])
        self.assertIsNone(goes_on(Proto("a", [first])))
        self.assertIsNone(goes_on(Proto("a", [first, (1, [("cipher", 1)], []), (0, [("label", 0)], [])])))
        self.assertEqual(goes_on(Proto("a", [first, (1, [("cipher", 1)], []), (0, [("label", 1)], [])])), 2)
        self.assertEqual(goes_on(Proto("a", [first, (1, [("label", 0)], []), (0, [("label", 1)], [])])), 1)
        self.assertEqual(goes_on(Proto("a", [(0, [], []), (0, [("word", 1)], [])])), 1)
        self.assertIsNone(goes_on(Proto("a", [(0, [], []), (0, [], []), (1, [], [("word", 1)]), (0, [("word", 1)], [])])))

    def test_by_trying(self):
        found = set()
        for chance in plain.chances(300):
            protocol = going_protocol(chance, "some") if chance.random() < 0.7 else random_protocol(chance, "some", 4)
            laid, due = [], None
            for index, (_, takes, puts) in enumerate(protocol.steps()):
                if laid[:len(takes)] != takes:
                    due = index
                    break
                laid = puts + laid[len(takes):]
            self.assertEqual(goes_on(protocol), due)
            found.add(due)
        self.assertLessEqual({None, 1, 2, 3}, found)


class TestMended(unittest.TestCase):
    def test_by_hand(self):
        told = mended(weak, ("add", 0, 1, ("label", 0)))
        self.assertEqual(told.steps(), [(0, [], [("cipher", 1), ("label", 0)]), (1, [("cipher", 1), ("label", 0)], [("cipher", 0)])])
        self.assertEqual(told.name(), "weak")
        told = mended(strong, ("shift", 0, 0, 1))
        self.assertEqual(told.steps()[0][2], [("label", 0), ("cipher", 1), ("cipher", 1)])
        self.assertEqual(told.steps()[1][1], told.steps()[0][2])
        last = mended(strong, ["shift", 1, 0, 2])
        self.assertEqual(last.steps()[1][2], [("label", 1), ("cipher", 0), ("cipher", 0)])
        self.assertEqual(weak.steps()[0][2], [("cipher", 1)])

    def test_by_trying(self):
        seen = set()
        for chance in plain.chances(60):
            protocol = going_protocol(chance, "some", 3)
            for word in ("add", "shift"):
                lasts = SOME if word == "add" else range(5)
                for index, place, last in itertools.product(range(4), range(5), lasts):
                    mend = (word, index, place, last)
                    due = mended_slowly(protocol, mend) if index < len(protocol.steps()) else None
                    seen.add((word, due is None))
                    if due is None:
                        with self.assertRaises(BadMend) as caught:
                            mended(protocol, mend)
                        self.assertIs(caught.exception.mend, mend)
                    else:
                        self.assertTrue(mended(protocol, mend) == due)
        self.assertEqual(len(seen), 4)

    def test_it_goes_on(self):
        for chance in plain.chances(200):
            protocol = going_protocol(chance, "some")
            if goes_on(protocol) is not None:
                continue
            for mend in mends(protocol, SOME):
                told = mended(protocol, mend)
                self.assertIsNone(goes_on(told))
                if mend[0] == "add":
                    self.assertEqual(told.steps()[mend[1]][2][mend[2]], mend[3])
                    for step in told.steps()[mend[1] + 1:mend[1] + 2]:
                        self.assertEqual(step[1][mend[2]], mend[3])

    def test_parts(self):
        # A seal of the other part is put by none, a cipher of the other part taken by none.
        for mend in (("add", 0, 0, ("seal", 1)), ("add", 1, 0, ("seal", 0)), ("add", 0, 0, ("cipher", 0))):
            with self.assertRaises(BadMend):
                mended(weak, mend)
        self.assertEqual(mended(weak, ("add", 1, 0, ("cipher", 1))).steps()[1][2], [("cipher", 1), ("cipher", 0)])
        same = Proto("same", [(0, [], [("label", 0)]), (0, [("label", 0)], [])])
        with self.assertRaises(BadMend):
            mended(same, ("add", 0, 0, ("cipher", 1)))
        self.assertEqual(mended(same, ("add", 0, 0, ("cipher", 0))).steps()[1][1], [("cipher", 0), ("label", 0)])

    def test_any_object(self):
        right = ("add", 0, 1, ("label", 0))
        wrong = list(plain.bent(right, [0, 1, 2, 7, -1, True, None, "label", "shift", ("label", 0)]))
        wrong += things() + [deep(), Odd(), ("add", Odd(), 1, ("label", 0)), (Alike(), 0, 1, ("label", 0)), ("add", 0, 1, Odd()),
                             ("shift", 0, 0, 0), ("shift", 0, 0, 1), ("shift", 0, True, 0), {"add": 0}, ("add", 0, 10 ** 3000, ("label", 0)),
                             ("add", 0, 1, ("label", "ann")), ("add", 0, 1, ("word", 10)), ("add", 0.0, 1, ("label", 0))]
        refused = 0
        for mend in wrong:
            try:
                told = mended(weak, mend)
            except BadMend as bad:
                self.assertIs(bad.mend, mend)
                refused += 1
            else:
                self.assertTrue(told == mended_slowly(weak, mend))
        self.assertGreater(refused, 50)


class TestMends(unittest.TestCase):
    def test_by_trying(self):
        for chance in plain.chances(120):
            protocol = going_protocol(chance, "some", 3, 2) if chance.random() < 0.7 else random_protocol(chance, "some")
            layers = chance.sample(SOME, chance.randint(0, 4))
            self.assertEqual(mends(protocol, layers), all_mends(protocol, layers))

    def test_edges(self):
        empty = Proto("empty", [(0, [], [])])
        self.assertEqual(mends(empty, []), [])
        self.assertEqual(mends(empty, [("word", 3), ("seal", 1)]), [("add", 0, 0, ("word", 3))])
        self.assertEqual(mends(Proto("two", [(0, [], [("word", 1), ("word", 1)])]), [("word", 1)]), [("add", 0, 0, ("word", 1))])
        self.assertEqual(mends(Proto("two", [(0, [], [("word", 1), ("word", 2)])]), ()), [("shift", 0, 0, 1)])
        self.assertEqual(mends(G, [("label", 0)])[0], ("add", 0, 0, ("label", 0)))

    def test_wrong(self):
        for layers in ([("label", 0), ("label", 0)], [["label", 0], ("label", 0)], [("label", 2)], ("label", 0), [("label", "ann")],
                       {("label", 0): 1}, [("label", True)], [Odd()], "ab", None):
            with self.assertRaises(BadLayers) as caught:
                mends(weak, layers)
            self.assertIs(caught.exception.layers, layers)
        for thing in ("weak", [weak], None, Odd(), Proto):
            for call in (goes_on, lambda thing: mended(thing, 5), lambda thing: mends(thing, 5)):
                with self.assertRaises(BadProtocol) as caught:
                    call(thing)
                self.assertIs(caught.exception.protocol, thing)

    def test_lists_for_tuples(self):
        for kind in (listed, tupled):
            self.assertEqual(mends(protocol=strong, layers=kind(L)), mends(strong, L))
            for mend in mends(strong, L):
                self.assertTrue(mended(strong, kind(mend)) == mended(protocol=strong, mend=mend))
        told = mends(strong, L)
        told.clear()
        self.assertEqual(len(mends(strong, L)), 23)

    def test_limits(self):
        letters = [("cipher", 0), ("cipher", 1), ("label", 0), ("label", 1), ("seal", 0)] + [("word", at) for at in range(5)]
        begin = time.time()
        for seed in range(20):
            chance = random.Random(seed)
            protocol = random_protocol(chance, "some", 5)
            for mend in mends(protocol, letters):
                mended(protocol, mend)
        self.assertLess(time.time() - begin, 5)


if __name__ == "__main__":
    unittest.main()

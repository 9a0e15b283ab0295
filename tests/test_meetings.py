"""Meeting lists, and charts with few askings: [14.3], [14.5], and what [14.8] says of them."""

import itertools
import random
import time
import unittest

from roadheld.errors import BadKeys
from roadheld.meetings import charted, meeting
from roadheld.refusals import BadLots
from tests import plain
from tests.samples import Alike, Odd, deep, things

NO_KEYS = ["abc", ["a", "a"], ["a", ("b",)], [("a",), "b"], [1], [("a", 1)], [["a"], ("a",)], [None], {"a": 1}, [[["a"]]], [("a", ("b",))],
           ["a", True], [Odd()], [Alike(), Alike()], [("a", Odd())], [[Alike()]]]


def are_keys(thing):
    """Whether some things of all kinds are unlike texts, or unlike lists of texts."""
    if not isinstance(thing, (list, tuple)):
        return False
    return len(thing) == 1 and (isinstance(thing[0], str) or isinstance(thing[0], (list, tuple)) and len(thing[0]) == 0)


def subsets(keys):
    """All ascending lists of keys."""
    keys = sorted(keys)
    return [list(row) for many in range(len(keys) + 1) for row in itertools.combinations(keys, many)]


def meeting_by_trying(keys, lots):
    met = [row for row in subsets(keys) if all(set(row) & set(lot) for lot in lots)]
    return sorted(row for row in met if not any(set(other) < set(row) for other in met))


def least_and_greatest(ask, keys):
    true = [set(row) for row in subsets(keys) if ask(row)]
    false = [set(row) for row in subsets(keys) if not ask(row)]
    least = sorted(sorted(row) for row in true if not any(other < row for other in true))
    return least, sorted(sorted(row) for row in false if not any(row < other for other in false))


class Asked:
    """A function that tells True where all of one of some lists are there, and notes what it is asked."""

    def __init__(self, lists, change=False):
        self.lists = [set(row) for row in lists]
        self.rows = []
        self.change = change

    def __call__(self, row):
        self.rows.append(list(row))
        told = any(one <= set(row) for one in self.lists)
        if self.change:
            row.clear()
            row.append("zzz")
        return told


class TestMeeting(unittest.TestCase):
    def test_edges(self):
        self.assertEqual(meeting([], []), [[]])
        self.assertEqual(meeting(["a", "b"], []), [[]])
        self.assertEqual(meeting(["a", "b"], [[]]), [])
        self.assertEqual(meeting(["a", "b"], [["a"], []]), [])
        self.assertEqual(meeting(["b", "a"], [["b", "a"]]), [["a"], ["b"]])
        self.assertEqual(meeting(["b", "a", "c"], [["b", "a"], ["c"], ["c"]]), [["a", "c"], ["b", "c"]])
        self.assertEqual(meeting(["", "B", "a"], [["", "a"], ["B", "a"]]), [["", "B"], ["a"]])
        self.assertEqual(meeting([("b", "x"), ["a", "y"]], [[["b", "x"]], (("a", "y"), ("b", "x"))]), [[("b", "x")]])
        self.assertEqual(meeting([(), ("a",)], [[()], [["a"]]]), [[(), ("a",)]])
        told = meeting([["a", "y"]], [[("a", "y")]])
        self.assertEqual([part.__class__ for part in (told, told[0], told[0][0])], [list, list, tuple])

    def test_by_trying(self):
        for chance in plain.chances(400):
            keys = chance.sample([("cipher", "ann"), ("cipher", "bob"), ("seal", "ann"), ("seal", "bob"), ("a",), ("b", "b", "b")],
                                 chance.randint(0, 6))
            lots = [chance.sample(keys, chance.randint(0 if chance.random() < 0.1 else 1, len(keys)) if keys else 0)
                    for _ in range(chance.randint(0, 6))]
            told = meeting(keys, lots)
            self.assertEqual(told, meeting_by_trying(keys, lots))
            self.assertEqual(meeting(keys[::-1], [tuple(map(list, lot)) for lot in lots][::-1]), told)
            self.assertEqual(meeting(keys, meeting(keys, told)), told)

    def test_refused(self):
        for wrong in NO_KEYS + [thing for thing in things() if not are_keys(thing)]:
            with self.assertRaises(BadKeys) as caught:
                meeting(wrong, None)
            self.assertIs(caught.exception.keyring, wrong)
            with self.assertRaises(BadKeys) as caught:
                charted(lambda row: True, wrong)
            self.assertIs(caught.exception.keyring, wrong)
        for wrong in ["a", "ab", ["a"], [["a", "a"]], [["c"]], [["a"], ["a", None]], [[["a"]]], {"a": 1}, [("a", ("b",))], None, 5,
                      [Odd()], [[Odd()]], [[Alike()]], deep(), [{"a": 1}], set(), True]:
            with self.assertRaises(BadLots) as caught:
                meeting(["a", "b"], wrong)
            self.assertIs(caught.exception.lots, wrong)
        for wrong in ([["a"]], [[("a", "b")]], [[("a",), ["a"]]]):
            with self.assertRaises(BadLots):
                meeting([("a",)], wrong)

    def test_eight_keys_seventy_lots(self):
        keys = ["ann", "bob", "cid", "dan", "eve", "fay", "gus", "hal"]
        begin = time.time()
        fours = [list(row) for row in itertools.combinations(keys, 4)]
        self.assertEqual(len(fours), 70)
        self.assertEqual(meeting(keys, fours), [list(row) for row in itertools.combinations(keys, 5)])
        for seed in range(20):
            chance = random.Random(seed)
            lots = [chance.sample(keys, chance.randint(1, 6)) for _ in range(70)]
            self.assertEqual(meeting(keys, lots), meeting_by_trying(keys, lots))
        more = keys + ["ida", "jon", "kay", "leo"]
        self.assertEqual(len(meeting(more, [list(pair) for pair in zip(more[::2], more[1::2])])), 64)
        self.assertLess(time.time() - begin, 20)


class TestCharted(unittest.TestCase):
    def check(self, keys, lists, change=False):
        ask = Asked(lists, change)
        least, greatest = charted(ask, keys)
        plain_keys = [key if isinstance(key, str) else tuple(key) for key in keys]
        self.assertEqual((least, greatest), least_and_greatest(Asked(lists), plain_keys))
        self.assertTrue(all(row == sorted(row) and set(row) <= set(plain_keys) for row in ask.rows))
        self.assertEqual(len({tuple(row) for row in ask.rows}), len(ask.rows))
        self.assertLessEqual(len(ask.rows), len(least) + (len(keys) + 1) * len(greatest))
        return ask

    def test_example(self):
        ask = self.check(["a", "b", "c"], [["a", "b"], ["a", "c"], ["b", "c"]])
        self.assertEqual(charted(ask, ["c", "a", "b"]), ([["a", "b"], ["a", "c"], ["b", "c"]], [["a"], ["b"], ["c"]]))
        self.assertLessEqual(len(ask.rows), 15 * 2)
        self.assertIsInstance(charted(ask, ["a"]), tuple)

    def test_edges(self):
        self.assertEqual(charted(lambda row: True, []), ([[]], []))
        self.assertEqual(charted(lambda row: False, []), ([], [[]]))
        self.assertEqual(charted(lambda row: True, ["a", "b"]), ([[]], []))
        self.assertEqual(charted(lambda row: False, ["b", "a"]), ([], [["a", "b"]]))
        self.assertEqual(charted(lambda row: ("x", "y") in row, [["x", "y"], ("b",)]), ([[("x", "y")]], [[("b",)]]))
        for lists in ([], [[]], [["a"]], [["a"], ["b"]], [["a", "b"]]):
            self.check(["b", "a"], lists)

    def test_by_trying(self):
        for chance in plain.chances(300):
            keys = chance.sample(["a", "b", "c", "d", "e", "f"], chance.randint(0, 6))
            lists = [chance.sample(keys, chance.randint(0, len(keys))) for _ in range(chance.randint(0, 5))]
            self.check(keys, lists, chance.random() < 0.5)
            self.check([["k", key] for key in keys], [[("k", key) for key in row] for row in lists], chance.random() < 0.5)

    def test_all_functions_of_three_keys(self):
        rows = subsets(["a", "b", "c"])
        for many in range(4):
            for lists in itertools.combinations(rows, many):
                self.check(["c", "a", "b"], lists)

    def test_what_is_handed_is_new(self):
        handed = []
        charted(lambda row: handed.append(row) or len(row) > 2, ["a", "b", "c", "d"])
        self.assertEqual(len({id(row) for row in handed}), len(handed))
        self.assertTrue(all(row.__class__ is list for row in handed))

    def test_eight_keys(self):
        keys = ["ann", "bob", "cid", "dan", "eve", "fay", "gus", "hal"]
        begin = time.time()
        self.check(keys, [list(row) for row in itertools.combinations(keys, 4)])
        for seed in range(12):
            chance = random.Random(seed)
            self.check(keys, [chance.sample(keys, chance.randint(2, 6)) for _ in range(chance.randint(1, 20))], True)
        self.assertLess(time.time() - begin, 20)


if __name__ == "__main__":
    unittest.main()

"""What holds everywhere: [2.1], [2.2], [2.3], of each function with right and with wrong arguments."""

import copy
import unittest

from roadheld.agents import Post
from roadheld.desks import Desk
from roadheld.errors import ProtocolError
from roadheld.protocols import Proto, read_protocol
from tests.calls import CALLS
from tests.samples import GREET, Alike, emptied, listed, tupled


def right(parameters):
    return [good for _, good, _ in parameters]


def copied(thing):
    """A copy of arguments or answers, posts and protocols staying."""
    if isinstance(thing, (list, tuple)):
        return thing.__class__(copied(part) for part in thing)
    return dict(thing) if isinstance(thing, dict) else thing


class TestRight(unittest.TestCase):
    def test_by_place_and_by_name(self):
        for function, parameters in CALLS:
            told = function(*right(parameters))
            self.assertEqual(function(**{name: good for name, good, _ in parameters}), told, function)
            self.assertEqual(function(**{name: good for name, good, _ in reversed(parameters)}), told, function)

    def test_lists_for_tuples(self):
        for function, parameters in CALLS:
            told = function(*right(parameters))
            self.assertEqual(function(*[listed(good) for good in right(parameters)]), told, function)
            self.assertEqual(function(*[tupled(good) for good in right(parameters)]), told, function)
            self.assertEqual(repr(told) == repr(told), True)

    def test_told_belongs_to_the_caller(self):
        for function, parameters in CALLS:
            told = function(*right(parameters))
            if isinstance(told, (Desk, Post, Proto)):
                continue
            kept = copy.deepcopy(told)
            emptied(told)
            again = function(*right(parameters))
            self.assertEqual(again, kept, function)

    def test_lists_in_one_answer_are_not_the_same(self):
        for function, parameters in CALLS:
            found = []
            left = [function(*right(parameters))]
            while left:
                thing = left.pop()
                if isinstance(thing, list):
                    found.append(thing)
                if isinstance(thing, (list, tuple)):
                    left.extend(thing)
            self.assertEqual(len({id(thing) for thing in found}), len(found), function)

    def test_passed_is_not_changed(self):
        for function, parameters in CALLS:
            passed = [listed(good) for good in right(parameters)]
            kept = copied(passed)
            function(*passed)
            self.assertEqual(passed, kept, function)

    def test_passed_and_told_have_no_list_in_common(self):
        for function, parameters in CALLS:
            passed = [listed(good) for good in right(parameters)]
            told = function(*passed)
            if isinstance(told, (Desk, Post, Proto)):
                continue
            kept = copy.deepcopy(told)
            for thing in passed:
                emptied(thing)
            self.assertEqual(told, kept, function)

    def test_asked_by_turns(self):
        told = [function(*right(parameters)) for function, parameters in CALLS]
        again = [function(*right(parameters)) for function, parameters in reversed(CALLS)]
        self.assertEqual(told, again[::-1])


class TestWrong(unittest.TestCase):
    def test_each_wrong_parameter(self):
        for function, parameters in CALLS:
            for at, (name, _, wrong) in enumerate(parameters):
                for bad, due in wrong[2] if wrong else []:
                    passed = right(parameters)
                    passed[at] = bad
                    self.due(function, passed, wrong, due, name)

    def test_the_first_wrong_parameter(self):
        for function, parameters in CALLS:
            for at, (name, _, wrong) in enumerate(parameters):
                if wrong is None:
                    continue
                behind = [kind[2][0][0] if kind else object() for _, _, kind in parameters[at + 1:]]
                for bad, due in wrong[2][:3]:
                    self.due(function, right(parameters)[:at] + [bad] + behind, wrong, due, name)
                    others = [object() for _ in behind]
                    self.due(function, right(parameters)[:at] + [bad] + others, wrong, due, name)

    def test_wrong_by_name(self):
        for function, parameters in CALLS:
            for name, _, wrong in parameters:
                if wrong is None:
                    continue
                passed = {other: good for other, good, _ in parameters}
                passed[name] = wrong[2][0][0]
                with self.assertRaises(wrong[0]):
                    function(**passed)

    def due(self, function, passed, wrong, due, name):
        kind, attribute, _ = wrong
        with self.subTest(function=function.__name__, name=name, passed=repr(passed)[:200]):
            with self.assertRaises(ProtocolError) as caught:
                function(*passed)
            self.assertIs(caught.exception.__class__, kind)
            if attribute in ("index", "line"):
                self.assertEqual(getattr(caught.exception, attribute), due)
            else:
                self.assertIs(getattr(caught.exception, attribute), due)


class TestObjects(unittest.TestCase):
    def test_equal_to_nothing_of_another_class(self):
        post = Post(["eve"], [("seal", "eve"), ("cipher", "eve")])
        protocol = read_protocol(GREET)
        for thing in (post, protocol):
            for other in (None, 1, "greet", [], (), {}, object(), Alike()):
                self.assertFalse(thing.__eq__(other))
            self.assertFalse(thing == 5)
            self.assertTrue(thing != 5)
        self.assertFalse(post == protocol)
        self.assertFalse(post == Alike())

    def test_later_changes_change_nothing(self):
        agents = ["bob", "eve"]
        keys = [["cipher", "eve"], ["seal", "eve"]]
        post = Post(agents, keys)
        agents.append("ann")
        keys[0][1] = "bob"
        self.assertEqual((post.agents(), post.keyring()), (["bob", "eve"], [("cipher", "eve"), ("seal", "eve")]))
        steps = [[0, [], [["cipher", 1]]], [1, [["cipher", 1]], []]]
        protocol = Proto("greet", steps)
        told = protocol.steps()
        steps[0][2].append(["word", 1])
        steps[1][1][0][0] = "label"
        steps.append(1)
        self.assertEqual(protocol.steps(), told)
        told[0][2].clear()
        told.clear()
        self.assertEqual(protocol.steps(), [(0, [], [("cipher", 1)]), (1, [("cipher", 1)], [])])
        post.agents().clear()
        post.keyring().clear()
        self.assertEqual((post.agents(), post.keyring()), (["bob", "eve"], [("cipher", "eve"), ("seal", "eve")]))


if __name__ == "__main__":
    unittest.main()

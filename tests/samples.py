"""Posts, protocols, rules and machines of the document's examples, and things of all kinds."""

import itertools

from roadheld.agents import Post
from roadheld.protocols import read_protocol
from roadheld.rules import rules_of

T = Post(["bob", "ann", "eve"], [("seal", "eve"), ("cipher", "eve")])
P = Post(["ann", "bob", "eve"], [("cipher", "eve"), ("seal", "eve")])
GREET = ("protocol greet { 0 takes nothing puts label 0 , cipher 1 ; "
         "1 takes label 0 , cipher 1 puts cipher 0 ; }")
HIDE = ("protocol hide { 0 takes nothing puts cipher 1 , label 0 ; "
        "1 takes cipher 1 , label 0 puts cipher 0 ; }")
WEAK = "protocol weak { 0 takes nothing puts cipher 1 ; 1 takes cipher 1 puts cipher 0 ; }"
TIGHT = ("protocol tight { 0 takes nothing puts cipher 1 , label 0 ; "
         "1 takes cipher 1 , label 0 puts cipher 0 ; }")
STRONG = ("protocol strong { 0 takes nothing puts cipher 1 , label 0 , cipher 1 ; "
          "1 takes cipher 1 , label 0 , cipher 1 puts cipher 0 , label 1 , cipher 0 ; }")
G = read_protocol(GREET)
H = read_protocol(HIDE)
weak = read_protocol(WEAK)
tight = read_protocol(TIGHT)
strong = read_protocol(STRONG)
w1, w2, w3 = ("word", 1), ("word", 2), ("word", 3)
r = [([w1], [w2, w3], 0), ([w2], [], 0)]
L = [([w1], 7)]
M = (2, [0], [(0, w1, 1), (0, w2, 0), (0, w3, 1)], [1])
WEAK_RULES = rules_of(P, [weak])
AGENTS = ["ann", "bob", "cid", "dan", "eve", "fay", "gus", "hal", "ida", "jon", "kay", "leo", "max", "ned", "oda", "pia"]


class Odd:
    """An object that minds being compared."""

    def __eq__(self, other):
        raise RuntimeError("compared")

    __hash__ = None


class Alike:
    """An object that says it is equal to anything."""

    def __eq__(self, other):
        return True

    def __hash__(self):
        return 1


def deep(many=45, core=()):
    """Something nested so deep."""
    for at in range(many):
        core = [core] if at % 2 else (core,)
    return core


def things():
    """Things of all kinds, none of which is right anywhere."""
    return [True, False, None, -1, -(10 ** 3000), 1.5, 2j, "", "Ann", "cipher", "abcdefghi", "\u00e4", b"ann",
            Odd(), Alike(), object(), {}, {"a": 1}, {1: [2]}, set(), frozenset([1]), range(3), deep(),
            deep(core={"a": [1]}), [[]], [()], [None], [True], [[[]]], [Odd()], (Alike(),), [Odd(), Odd(), Odd()],
            (Alike(), Alike()), [1, [2, [3]]], ["cipher"], ["cipher", "ann", 1], [["cipher", "ann"], True],
            int, len, Exception("x"), iter([]), "nothing : 0", 3.0]


def listed(thing):
    """A thing with lists for tuples, within others too."""
    if isinstance(thing, (list, tuple)):
        return [listed(part) for part in thing]
    return thing


def tupled(thing):
    """A thing with tuples for lists, within others too."""
    if isinstance(thing, (list, tuple)):
        return tuple(tupled(part) for part in thing)
    return thing


def emptied(thing):
    """Empties all lists and dicts of something that was told."""
    if isinstance(thing, (list, tuple)):
        for part in thing:
            emptied(part)
    if isinstance(thing, (list, dict)):
        thing.clear()


def words_up_to(letters, longest):
    """All lists of letters, the shorter ones first, then ascending."""
    for length in range(longest + 1):
        for row in itertools.product(sorted(letters), repeat=length):
            yield list(row)

"""Posts, protocols, rules and machines of the document's examples, and things of all kinds."""

import itertools

from roadheld.agents import Post
from roadheld.protocols import Proto, read_protocol
from roadheld.rules import rules_of

T = Post(["bob", "ann", "eve"], [("seal", "eve"), ("cipher", "eve")])
P = Post(["ann", "bob", "eve"], [("cipher", "eve"), ("seal", "eve")])
GREET = ("protocol greet { 0 takes nothing puts label 0 , cipher 1 ; "
         "1 takes label 0 , cipher 1 puts cipher 0 ; }")
HIDE = ("protocol hide { 0 takes nothing puts cipher 1 , label 0 ; "
        "1 takes cipher 1 , label 0 puts cipher 0 ; }")
WEAK = "protocol weak { 0 takes nothing puts cipher 1 ; 1 takes cipher 1 puts cipher 0 ; }"
TIGHT = ("protocol tight { 0 takes nothing puts cipher 1 , label 0 ; "
         "1 takes cipher 1 , label 0 puts cipher 0 ; }")
STRONG = ("protocol strong { 0 takes nothing puts cipher 1 , label 0 , cipher 1 ; "
          "1 takes cipher 1 , label 0 , cipher 1 puts cipher 0 , label 1 , cipher 0 ; }")
G = read_protocol(GREET)
H = read_protocol(HIDE)
weak = read_protocol(WEAK)
tight = read_protocol(TIGHT)
strong = read_protocol(STRONG)
w1, w2, w3 = ("word", 1), ("word", 2), ("word", 3)
r = [([w1], [w2, w3], 0), ([w2], [], 0)]
L = [([w1], 7)]
M = (2, [0], [(0, w1, 1), (0, w2, 0), (0, w3, 1)], [1])
WEAK_RULES = rules_of(P, [weak])
AGENTS = ["ann", "bob", "cid", "dan", "eve", "fay", "gus", "hal", "ida", "jon", "kay", "leo", "max", "ned", "oda", "pia"]


class Odd:
    """An object that minds being compared."""

    def __eq__(self, other):
        raise RuntimeError("compared")

    __hash__ = None


class Alike:
    """An object that says it is equal to anything."""

    def __eq__(self, other):
        return True

    def __hash__(self):
        return 1


def deep(many=45, core=()):
    """Something nested so deep."""
    for at in range(many):
        core = [core] if at % 2 else (core,)
    return core


def things():
    """Things of all kinds, none of which is right anywhere."""
    return [True, False, None, -1, -(10 ** 3000), 1.5, 2j, "", "Ann", "cipher", "abcdefghi", "\u00e4", b"ann",
            Odd(), Alike(), object(), {}, {"a": 1}, {1: [2]}, set(), frozenset([1]), range(3), deep(),
            deep(core={"a": [1]}), [[]], [()], [None], [True], [[[]]], [Odd()], (Alike(),), [Odd(), Odd(), Odd()],
            (Alike(), Alike()), [1, [2, [3]]], ["cipher"], ["cipher", "ann", 1], [["cipher", "ann"], True],
            int, len, Exception("x"), iter([]), "nothing : 0", 3.0]


def listed(thing):
    """A thing with lists for tuples, within others too."""
    if isinstance(thing, (list, tuple)):
        return [listed(part) for part in thing]
    return thing


def tupled(thing):
    """A thing with tuples for lists, within others too."""
    if isinstance(thing, (list, tuple)):
        return tuple(tupled(part) for part in thing)
    return thing


def emptied(thing):
    """Empties all lists and dicts of something that was told."""
    if isinstance(thing, (list, tuple)):
        for part in thing:
            emptied(part)
    if isinstance(thing, (list, dict)):
        thing.clear()


def words_up_to(letters, longest):
    """All lists of letters, the shorter ones first, then ascending."""
    for length in range(longest + 1):
        for row in itertools.product(sorted(letters), repeat=length):
            yield list(row)


def random_protocol(chance, name, most=3):
    """A protocol of some steps by chance."""
    steps = [(0, [], [chance.choice([("cipher", 1), ("label", 0), ("word", 1)]) for _ in range(chance.randint(1, 3))])]
    for at in range(1, chance.randint(2, most)):
        part = at % 2
        takes = [("cipher", part), ("cipher", part), ("label", 0), ("label", 1), ("seal", 0), ("seal", 1), ("word", 1)]
        puts = [("cipher", 0), ("cipher", 1), ("label", 0), ("label", 1), ("seal", part), ("word", 1)]
        steps.append((part, [chance.choice(takes) for _ in range(chance.randint(0, 3))],
                      [chance.choice(puts) for _ in range(chance.randint(0, 3))]))
    return Proto(name, steps)


def random_question(chance):
    """A post, protocols and messages by chance, about as often bare as safe."""
    agents = AGENTS[:chance.randint(2, 4)]
    mine = chance.choice(agents)
    keys = [("cipher", mine), ("seal", mine)]
    keys += [key for key in [("cipher", agents[0]), ("seal", agents[1])] if key not in keys and chance.random() < 0.2]
    post = Post(agents, keys)
    protocols = [random_protocol(chance, name) for name in ("one", "two")[:chance.randint(0, 2)]]
    letters = [("cipher", agent) for agent in agents] * 2 + [("label", agents[0]), ("seal", agents[1]), ("word", 1)]
    messages = [([chance.choice(letters) for _ in range(chance.randint(1, 3))], chance.randint(-1, 1))
                for _ in range(chance.randint(0, 3))]
    return (post, protocols, messages)

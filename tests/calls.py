"""For each function its right arguments by their names, and for each of these wrong ones and the error that is due."""

from roadheld import agents, alike, answers, asking, attacks, audits, books, charts, closedlists, comings, costs, desks, drops
from roadheld import exchange, growing, keylots, ledover, machines, meetings, messages, papers, papertexts, posts, protocols
from roadheld import errors, houses, howsoon, listening, mends, packing, prices, programs, programtexts, protocollots, refusals, rules
from roadheld import runs, standing, taken, tightening, ways, wordsapart
from roadheld.agents import Post
from roadheld.protocols import Proto
from tests.samples import G, H, L, M, P, T, WEAK_RULES, Alike, Odd, r, strong, things, w1, w2, w3, weak

LOG = [("begin", "greet", "ann", "bob", 0), ("take", ("label", "ann"), 0), ("put", ("label", "eve"), 1),
       ("answer", "greet", "bob", "eve", 1, 2), ("take", ("cipher", "eve"), 3)]
HELD = [([("label", "ann"), ("cipher", "bob")], 0), ([], 5)]
ROWS = [(0, w1, 1), (1, w2, 0)]
RULE = ([w1], [w2], None)
COPIES = [Proto("greet", [(0, [], [])]), Proto("greet", [(0, [], [("word", 1)])])]

# Layers that are none whoever the agents are; and such as are none of the post T.
WRONG_LAYERS = [("cipher", "Ann"), ("cipher", "label"), ("cipher", "abcdefghi"), ("cipher", ""), ("word", 10), ("word", -1),
                ("word", True), ("word", "1"), ("word", 1.0), ("sign", "ann"), ("cipher", 0), ("cipher",), "cipher",
                ("cipher", "ann", 1), ["label", None], (Odd(), "ann"), (Alike(), 3), [Alike(), "ann"], (["cipher"], "ann"), ("word", 10 ** 3000)]
NO_POST = [("agents", "eve"), {"agents": []}, Post, G]
NO_PROTOCOLS = ["weak", [G, G], [G, None], [[G]], COPIES, G, (H, G, H), {"greet": G}, [Proto]]
NO_MESSAGES = [([], 0), [([], True)], [([], 0.0)], [([w1], 0, 0)], [[w1]], [("word 1", 0)], [([], 0), ([w1, 5], 0)],
               [([], "0")], [((w1), 0)], {0: ([], 0)}, "", [([w1], None)]] + [[([layer], 0)] for layer in WRONG_LAYERS]
NO_ROWS = [w1, [w1, None], "w1", [[w1]], {0: w1}] + [[w1, layer] for layer in WRONG_LAYERS]
NO_RULES = [("x", 0), ({}, 0), ([RULE, None], 1), ([RULE, RULE, ([w1], [w2])], 2), ([([w1], [w2], 0, 0)], 0),
            ([RULE, ([w1], w2, 0)], 1), ([RULE, ("", [w2], 0)], 1), (RULE, 0), ([RULE, "abc"], 1), ("abc", 0)]
NO_RULES += [([RULE, ([layer], [], 0)], 1) for layer in WRONG_LAYERS] + [([([], [w1, layer], 0)], 0) for layer in WRONG_LAYERS]
NO_NUMBERS = [-1, True, False, None, "1", 1.0, [1], -(10 ** 3000)]
NO_MACHINES = [(0, [], [], []), (-1, [], [], []), (True, [], [], []), (2, [0], []), (2, [0], [], [1], 0), (2, [2], [], []),
               (2, [], [], [2]), (2, [1, 0], [], []), (2, [0, 0], [], []), (2, [], [], [1, 0]), (2, [], [], [0, 0]),
               (2, [-1], [], []), (2, [True], [], []), (2, [], [], [False]), (2, 0, [], []), (2, [], {}, []),
               (2, [0], [(0, w1, 2)], [1]), (2, [0], [(2, w1, 0)], [1]), (2, [0], [(0, w1)], [1]),
               (2, [0], [(0, w2, 1), (0, w1, 1)], [1]), (2, [0], [(0, w1, 1), (0, w1, 1)], [1]),
               (2, [0], [(0, w1, 1), (0, w1, 0)], [1]), (2, [0], [(1, w1, 1), (0, w1, 0)], [1]),
               (2, [0], [(True, w1, 1)], [1]), (2, [0], [(0, w1, True)], [1]), (2, [0], [w1], [1]), (2.0, [0], [], [1]),
               (2, "0", [], []), {0: 2}, "2001"] + [(2, [0], [(0, layer, 1)], [1]) for layer in WRONG_LAYERS]
NO_AGENTS = ["", "Ann", "abcdefghi", "cipher", "seal", "label", "word", "nothing", "takes", "puts", "protocol", "a b",
             "ann1", ["ann"], b"ann", "\u00e4nn", "ann\n"]
WRONG_PART_LAYERS = [("cipher", 2), ("cipher", True), ("seal", False), ("cipher", -1), ("label", "ann"), ("word", 10),
                     ("word", True), ("word", -1), ("cipher",), ("cipher", 0, 0), "cipher", ("key", 0), ("seal", 1.0), (Odd(), 0),
                     (Alike(), 0), ("label", Alike()), ("word", Odd())]
NO_PART_ROWS = [("word", 1), [("word", 1), 5], "", {}] + [[layer] for layer in WRONG_PART_LAYERS]
FIRST = (0, [], [("cipher", 1)])
WRONG_STEPS = [None, (0, []), (0, [], [], []), (2, [], []), (True, [], []), ("0", [], []), (0, None, []), (0, [], "x"),
               (0, [], [("seal", 1)]), (1, [], [("seal", 0)]), (0, [("cipher", 1)], []), (1, [("cipher", 0)], []),
               (-1, [], []), [0, [], {}]]
WRONG_STEPS += [(0, [layer], []) for layer in WRONG_PART_LAYERS] + [(1, [], [layer]) for layer in WRONG_PART_LAYERS]
NO_STEPS = [([], 0), ((), 0), ("", 0), ({}, 0), ([(1, [], [])], 0), ([(0, [w1], [])], 0), (FIRST, 0)]
NO_STEPS += [([FIRST, step], 1) for step in WRONG_STEPS] + [([FIRST, FIRST, step], 2) for step in WRONG_STEPS]
NO_STEPS += [([step, FIRST], 0) for step in WRONG_STEPS]


BOOK = [(((), w2, ()), 1, []), (((), w1, ()), 0, [0])]
NO_BOOKS = ["", BOOK[0], {0: BOOK[0]}, BOOK[1:], [(((), w1, ()), -1, [])], [(((), w1, ()), True, [])], [(((), w1, ()), 0)],
            [(((), w1, ()), 0, [0])], [(((), w1, ()), 0, None)], [(((), w1), 0, [])], [((w1, w1, ()), 0, [])],
            [(((), w1, ()), None, [])] + [(((), w1, ()), 0, [False])], [(((), w1, ()), "0", [])], [((), w1, ()), 0, []]]
NO_BOOKS += [[(([layer], w1, ()), 0, [])] for layer in WRONG_LAYERS] + [[(((), layer, ()), 0, [])] for layer in WRONG_LAYERS]
NO_DROPS = [((), w1), ((), w1, (), ()), (w1, w1, ()), ((), w1, w1), (None, w1, ()), "abc", {0: 1}]
NO_DROPS += [((), layer, ()) for layer in WRONG_LAYERS] + [((), w1, [layer]) for layer in WRONG_LAYERS]
FIRST = [([("label", "ann"), ("cipher", "bob")], 0)]
BARE = answers.answer_for(T, [G], FIRST)
TEXT = audits.audit_text(T, [G], FIRST, BARE)
ATTACK = (0, [("take", ("label", "ann")), ("put", ("label", "eve")), ("answer", "greet", "bob", "eve", 1), ("take", ("cipher", "eve"))])
NO_ATTACKS = [(0, []), (1, ATTACK[1]), (0, ATTACK[1][1:]), (0, ATTACK[1] + [None]), (0,), (0, ATTACK[1], 0), (False, ATTACK[1]), ATTACK[1]]
NO_QUESTIONS = [(T, [G]), (T, [G], HELD, 0), (G, [G], HELD), (T, G, HELD), (T, [G, G], HELD), (T, [G], None), (T, [G], [([("label", "zoe")], 0)])]
PAPER = (2, [0], [(0, ("cipher", "bob"), 1), (0, ("label", "eve"), 0), (0, w1, 0)], [1])


KEYS = [("seal", "bob"), ("cipher", "bob"), ("cipher", "ann")]
NO_ASKED_KEYS = [("cipher", "ann"), [("cipher", "ann")] * 2, [("cipher", "eve")], [("cipher", "zoe")], [("label", "ann")], [w1],
                 [("cipher", "ann"), None], {("cipher", "ann"): 1}, "ab"]
NO_PLAIN_KEYS = ["abc", ["a", "a"], ["a", ("b",)], [("a",), "b"], [1], [("a", 1)], [["a"], ("a",)], {"a": 1}, [("a", ("b",))], ["a", True]]
CHART = charts.chart(T, [G], FIRST, KEYS)
DESK = desks.Desk(T, [G], FIRST)
DESK.edit(("hire", "cid"))


def ask_two(row):
    return len(row) > 1


def kept(wrong):
    """Wrong arguments of which the error keeps the very object."""
    return [(thing, thing) for thing in list(wrong) + things()]


def first_of(wrong):
    """Wrong arguments of which the error keeps an index: things of all kinds are wrong at 0."""
    return list(wrong) + [(thing, 0) for thing in things() if not (isinstance(thing, (list, tuple)) and thing == [])]


def without(wrong, right):
    """Wrong arguments but those that are right here."""
    return [(thing, told) for thing, told in wrong if not any(thing is good for good in right)]


POST = (errors.BadPost, "post", kept(NO_POST))
PROTOCOLS = (errors.BadProtocols, "protocols", kept(NO_PROTOCOLS))
MESSAGES = (errors.BadMessages, "messages", kept(NO_MESSAGES))
POST_MESSAGES = (errors.BadMessages, "messages", kept(NO_MESSAGES + [[([("label", "zoe")], 0)]]))
RULES = (errors.BadRules, "index", first_of(NO_RULES))
OTHERS = (refusals.BadOthers, "index", first_of(NO_RULES))
LAYERS = (errors.BadLayers, "layers", kept(NO_ROWS))
PART_LAYERS = (errors.BadLayers, "layers", kept(NO_PART_ROWS))
MACHINE = (errors.BadMachine, "machine", kept(NO_MACHINES))
OTHER_MACHINE = (errors.BadOther, "other", kept(NO_MACHINES))
MOST = (errors.BadMost, "most", kept(NO_NUMBERS))
LONG = (refusals.BadLong, "long", kept(NO_NUMBERS))
PROTOCOL = (errors.BadProtocol, "protocol", kept([[G], "greet", Proto, T]))
OTHER_PROTOCOL = (errors.BadOther, "other", kept([[G], "greet", Proto, T]))
ANSWER = (refusals.BadAnswer, "answer", kept(["bare", BARE[:4], BARE + (0,), ("safe",) + BARE[1:], ("safe", M), ("bare", 0, 5) + BARE[3:]]))
ATTACKS = (refusals.BadAttack, "attack", kept(NO_ATTACKS))
ASKED = (refusals.BadAsked, "asked", kept(NO_MACHINES))
KEPT = (refusals.BadKept, "kept", kept(["ann", ["ann", "ann"], ["zoe"], {"ann": 1}] + [["bob", name] for name in NO_AGENTS]))
ADVERSARY = (refusals.BadAdversary, "adversary", kept(["ann", "bob", "zoe", ["eve"]] + NO_AGENTS))
ASKED_KEYS = (errors.BadKeys, "keyring", kept(NO_ASKED_KEYS))
# Lists of one text, or of one empty list, are keys.
PLAIN_KEYS = (errors.BadKeys, "keyring", [(thing, told) for thing, told in kept(NO_PLAIN_KEYS) if not (
    isinstance(thing, list) and len(thing) == 1 and (isinstance(thing[0], str) or isinstance(thing[0], (list, tuple)) and not thing[0]))])
# A list of one empty list is one of a lot.
LOTS = (refusals.BadLots, "lots", [(thing, told) for thing, told in kept(
    ["ab", [("b",)], [["b", "b"]], [[("b",), ("b",)]], [[("z",)]], [[("b",), None]], {0: 1}, [["b"]]]) if not (
        isinstance(thing, list) and len(thing) == 1 and isinstance(thing[0], (list, tuple)) and not thing[0])])
COUNTED = (refusals.BadCounted, "counted", kept([[2], [-1], [0, 0], [True], [0, None], 0, "0", {0: 1}, [0.0], [10 ** 3000]]))
UNPARTED = (refusals.BadAttack, "attack", kept([(0,), (0, [], 0), (-1, []), (0, None), (0, [("put", ("word", 10))]), (0, [("own", 1)]),
                                                (0, [("answer", "G", "ann", "bob", 1)])]))
NO_TEXT = [(b"states 1", 0), ("states 0", 0), (["states 1", "firsts", "ends"], 0)]
POST_LAYER = (errors.BadLayer, "layer", kept(WRONG_LAYERS + [("cipher", "zoe"), ("seal", "zoe"), ("label", "zoe")]))
ANY = None
OTHER_RULES = [([w1, w2], [w3], None), ([w3], [], None), ([], [w1], None), ([w1], [], None)]
RUN = [2, 3, 2, 0, 1, 2, 0, 1]
# A list of no moves is a run, but no attack.
MOVES = (errors.BadMoves, "index", [(thing, told) for thing, told in first_of(
    [([4], 0), ([2, -1], 1), ([2, 3, 4], 2), ([2, True], 1), ([0], 0), ([2, 0, 0], 2), ([2, 0, 1, 2, 0, 10 ** 3000], 5), ({0: 2}, 0)])])
PACKED_MOVES = (errors.BadMoves, "index", MOVES[2] + [([2, 0, 1], 3), (RUN + [2, 3], 10), ((), 0)])
ZERO = (errors.BadZero, "zero", kept(NO_AGENTS + ["zoe"]))
ONE = (errors.BadOne, "one", kept(NO_AGENTS + ["zoe", "ann"]))
NAMES = (refusals.BadNames, "names", kept(["greet", ["greet", "greet"], ["zoe"], ["greet", "hid"], {"greet": 1}]))
NEW_LAYERS = (errors.BadLayers, "layers", kept(NO_PART_ROWS + [[("label", 0), ("label", 0)], [w1, ["word", 1]]]))
STUCK = Proto("stuck", [(0, [], [("cipher", 1)]), (1, [w1], [])])
GOING = (errors.BadProtocol, "protocol", kept([[G], "greet", Proto, T, STUCK]))
CORE = (errors.BadCore, "core", [(thing, thing) for thing in [True, False, None, "7", 7.0, [7], Post, {}, object()]])
MENDS = (refusals.BadMend, "mend", kept([("add", 2, 0, ("label", 0)), ("add", 0, 3, ("label", 0)), ("add", 0, 0, ("seal", 1)),
                                         ("shift", 0, 1, 1), ("shift", 0, 0, 2), ("add", 0, 0), ("put", 0, 0, w1), ("add", True, 0, w1)]))

PROGRAM = (1, [("open",), ("check", "label", "partner"), ("either", [("word", 3)], [("word", 4), ("check", "word", 5)]), ("cipher", "partner"),
               ("send",)])
BEGIN = (0, [("cipher", "partner"), ("send",)])
NO_PROGRAMS = [(2, []), (True, []), (1,), (1, [], []), (1, ("open",)), (1, [("open", 1)]), (1, [("check", "cipher", "mine")]), (1, [("word", 10)]),
               (1, [("word", True)]), (1, [("seal", "mine")]), (1, [("label", "ann")]), (1, [("either", [])]), (1, [("either", [], [None])]),
               (1, "open"), {1: []}, (1, [("check", "word", "mine")]), (1, [("check", "label", 1)]), (1, [("send",), "send"])]
PROGRAMS = (errors.BadProgram, "program", kept(NO_PROGRAMS))
# A list of one empty list is no place, a list of numbers may be one of another program.
PLACE = (errors.BadPlace, "place", kept([(5,), (), [2, 0], (2, 2, 0), (2, 0, 1), (True,), (-1,), "2", (0, 0, 0), 2]))
STEP = (1, [("cipher", 1)], [("label", 1)])
WRONG_ONES = [(1, [("cipher", 0)], []), (1, [], [("seal", 0)]), (1, []), (2, [], []), "abc"]
WAY = packing.packed(OTHER_RULES, [w2, w2], RUN)
WAYS = (errors.BadWay, "way", kept([WAY[0], (WAY[0], [5]), (WAY[0], [4, 5, 5]), (WAY[0][1:], [4, 3]), (WAY[0], [True, 4]), (WAY[0], WAY[1], 0), ([], [])]))
ATTACK_MOVES = (errors.BadMoves, "index", MOVES[2] + [([2, 0, 1], 3), (RUN + [2], 9), ((), 0)])
PRICED = prices.within(r, [0], [w3], 0)[1]
PRICES = (refusals.BadPrices, "prices", kept(["ab", [((), w1, ())], [(((), w1, ()), -1)], [(((), w1, ()), True)], PRICED + PRICED[:1], {0: 1}]
                                             + [[(drop, 1)] for drop in NO_DROPS]))
MANY = (errors.BadMany, "many", kept(NO_NUMBERS))
NAME = (errors.BadName, "name", kept(["zoe", "Hide", ["hide"]]))
TAKEN_PART = (errors.BadPart, "part", kept([0, 2, "1", [1]]))
TAKEN_AGENT = (errors.BadAgent, "agent", kept(NO_AGENTS + ["zoe"]))
TAKEN_PARTNER = (errors.BadPartner, "partner", kept(NO_AGENTS + ["zoe", "bob"]))
SIGN = Proto("sign", [(0, [], [("cipher", 1), ("seal", 0)]), (1, [("cipher", 1), ("seal", 0)], [("cipher", 0)])])

CALLS = [
    (agents.Post, [("agents", ["bob", "ann", "eve"], (errors.BadAgents, "agents", kept(
        ["ann", ["ann", "ann"], ["ann", "Bob"], {"ann": 1}, "abc"] + [["bob", name] for name in NO_AGENTS]))),
                   ("keyring", [("seal", "eve"), ("cipher", "eve")], (errors.BadKeys, "keyring", kept(
                       [[], (), [("seal", "eve")], [("cipher", "eve")], [("cipher", "eve"), ("seal", "ann")],
                        [("cipher", "eve"), ("seal", "eve"), ("seal", "eve")], ("cipher", "eve"),
                        [("cipher", "eve"), ("seal", "eve"), ["seal", "eve"]], [("cipher", "zoe"), ("seal", "zoe")],
                        [("cipher", "eve"), ("seal", "eve"), ("label", "eve")],
                        [("cipher", "eve"), ("seal", "eve"), ("word", 1)],
                        [("cipher", "eve"), ("seal", "eve"), ("seal", "zoe")],
                        [("cipher", "eve"), ("seal", "eve"), None], {("cipher", "eve"): 1, ("seal", "eve"): 1}])))]),
    (agents.may_put, [("post", T, POST), ("layer", ("seal", "eve"), POST_LAYER)]),
    (agents.may_take, [("post", T, POST), ("layer", ("cipher", "eve"), POST_LAYER)]),
    (messages.message_text, [("message", ([("cipher", "bob"), w3], 7), (errors.BadMessage, "message", kept(
        [([], 0, 0), [[w1]], ([], True), ([], None), (None, 0), (w1, 0), "ab", ([], 1.0), {0: [], 1: 0}]
        + [([layer], 0) for layer in WRONG_LAYERS])))]),
    (protocols.Proto, [("name", "greet", (errors.BadName, "name", kept(NO_AGENTS))),
                       ("steps", G.steps(), (errors.BadSteps, "index", first_of(NO_STEPS)))]),
    (protocols.dealt, [("layers", [("cipher", 0), ("label", 1), w3], PART_LAYERS),
                       ("zero", "ann", (errors.BadZero, "zero", kept(NO_AGENTS))),
                       ("one", "bob", (errors.BadOne, "one", kept(NO_AGENTS + ["ann"])))]),
    (protocols.protocol_text, [("protocol", G, PROTOCOL)]),
    (protocols.with_words, [("protocol", G, PROTOCOL), ("words", {}, (errors.BadWords, "words", [
        (thing, thing) for thing in [{0: 1}, {1: 2, 2: 1}, [], (), "", None, [1]] + things() if not (isinstance(thing, dict) and not thing)]))]),
    (protocols.words_apart, [("protocol", G, PROTOCOL), ("other", G, OTHER_PROTOCOL)]),
    (posts.done, [("post", T, POST), ("protocols", [G], PROTOCOLS), ("messages", HELD, POST_MESSAGES),
                  ("deed", ("answer", "greet", "bob", "ann", 1, 0), ANY)]),
    (posts.refused, [("post", T, POST), ("protocols", [G, H], PROTOCOLS), ("log", LOG, (errors.BadLog, "log", [
        (thing, thing) for thing in ["", {}, None, 5, "put", True, {"a": 1}, object(), len, set()]]))]),
    (posts.held_by, [("post", T, POST), ("protocols", [G, H], PROTOCOLS), ("log", LOG, (errors.BadLog, "log", kept(
        [LOG[:3] + [("take", ("label", "bob"), 2)], LOG[1:], [("own", True)], LOG[0]])))]),
    (posts.through, [("post", T, POST), ("protocols", [G, H], PROTOCOLS), ("log", LOG, (errors.BadLog, "log", kept(
        [LOG[:3] + [("take", ("label", "bob"), 2)], LOG[1:], [("own", True)], LOG[0]])))]),
    (rules.first_messages, [("post", P, POST), ("protocols", [weak, G], PROTOCOLS),
                            ("agent", "ann", (errors.BadAgent, "agent", kept(NO_AGENTS + ["zoe"]))),
                            ("partner", "bob", (errors.BadPartner, "partner", kept(NO_AGENTS + ["zoe", "ann"]))),
                            ("core", 7, (errors.BadCore, "core", [(thing, thing) for thing in [
                                True, False, None, "7", 7.0, [7], Post, {}, object()]]))]),
    (rules.rules_of, [("post", P, POST), ("protocols", [weak, G], PROTOCOLS)]),
    (rules.after, [("rules", r, RULES), ("layers", [w1, w2], LAYERS), ("rule", 0, (errors.BadRule, "rule", kept(
        [2, -2, "0", [0], 10 ** 3000])))]),
    (rules.controls, [("rules", r, RULES)]),
    (drops.all_drops, [("rules", r, RULES)]),
    (drops.down, [("rules", r, RULES), ("layers", [w2, w2], LAYERS)]),
    (attacks.fewest, [("post", T, POST), ("protocols", [G], PROTOCOLS), ("messages", HELD[:1], POST_MESSAGES)]),
    (attacks.attack_of, [("post", T, POST), ("protocols", [G], PROTOCOLS), ("messages", HELD[:1], POST_MESSAGES),
                         ("most", 9, MOST)]),
    (attacks.judged_attack, [("post", T, POST), ("protocols", [G], PROTOCOLS), ("messages", HELD, POST_MESSAGES),
                             ("thing", (0, [("take", ("label", "ann"))]), ANY)]),
    (machines.is_machine, [("thing", M, ANY)]),
    (machines.states_behind, [("machine", M, MACHINE), ("states", [1, 0], (errors.BadStates, "states", kept(
        [0, [2], [0, 0], [-1], [True], [0, False], "0", {0: 1}, [0.0], [10 ** 3000]]))), ("layers", [w2], LAYERS)]),
    (machines.is_taken, [("machine", M, MACHINE), ("layers", [w2, w1], LAYERS)]),
    (machines.both, [("machine", M, MACHINE), ("other", (1, [0], [(0, w2, 0)], [0]), OTHER_MACHINE)]),
    (machines.either, [("machine", M, MACHINE), ("other", (1, [0], [(0, w2, 0)], [0]), OTHER_MACHINE)]),
    (machines.pruned, [("machine", (3, [0], [(0, w1, 1), (0, w2, 2)], [1]), MACHINE)]),
    (papers.judged_paper, [("rules", r, RULES), ("messages", L, MESSAGES), ("machine", M, MACHINE)]),
    (papers.is_paper, [("rules", r, RULES), ("messages", L, MESSAGES), ("thing", M, ANY)]),
    (growing.grown, [("rules", r, RULES), ("machine", M, MACHINE)]),
    (growing.machine_of, [("messages", HELD, MESSAGES)]),
    (growing.turned, [("rules", r, RULES)]),
    (comings.fewest_moves, [("rules", r, RULES), ("messages", L, MESSAGES), ("layers", [w3], LAYERS)]),
    (comings.is_attack_to, [("rules", r, RULES), ("messages", L, MESSAGES), ("layers", [w3], LAYERS),
                            ("thing", (0, [0, 1]), ANY)]),
    (comings.attack_to, [("rules", r, RULES), ("messages", L, MESSAGES), ("layers", [w3], LAYERS), ("most", 2, MOST)]),
    (comings.judged_never, [("rules", r, RULES), ("messages", L, MESSAGES), ("layers", [w2], LAYERS),
                            ("machine", M, MACHINE)]),
    (comings.never, [("rules", r, RULES), ("messages", L, MESSAGES), ("layers", [w2], LAYERS)]),
    (books.is_book, [("rules", r, RULES), ("thing", BOOK, ANY)]),
    (books.counts, [("book", BOOK, (errors.BadBook, "book", kept(NO_BOOKS)))]),
    (books.book_of, [("rules", r, RULES), ("drop", ((), w2, ()), (errors.BadDrop, "drop", kept(NO_DROPS)))]),
    (books.book_down, [("rules", r, RULES), ("layers", [w2, w2], LAYERS)]),
    (papertexts.paper_text, [("machine", M, MACHINE)]),
    (papertexts.read_paper, [("text", papertexts.paper_text(M), (refusals.BadPaperText, "line", first_of(NO_TEXT)))]),
    (answers.answer_for, [("post", T, POST), ("protocols", [G], PROTOCOLS), ("messages", FIRST, POST_MESSAGES)]),
    (answers.answer_for, [("post", T, POST), ("protocols", [H], PROTOCOLS), ("messages", FIRST, POST_MESSAGES)]),
    (answers.is_answer, [("post", T, POST), ("protocols", [G], PROTOCOLS), ("messages", FIRST, POST_MESSAGES), ("thing", BARE, ANY)]),
    (answers.is_more, [("post", T, POST), ("protocols", [G, H], PROTOCOLS), ("messages", HELD, POST_MESSAGES),
                       ("other", (T, [G], HELD[:1]), (errors.BadOther, "other", kept(NO_QUESTIONS)))]),
    (audits.audit_text, [("post", T, POST), ("protocols", [G], PROTOCOLS), ("messages", FIRST, POST_MESSAGES), ("thing", BARE, ANSWER)]),
    (audits.audited, [("text", TEXT, (refusals.BadAudit, "line", first_of([(TEXT.encode(), 0), (TEXT.split("\n"), 0)])))]),
    (asking.ever, [("rules", r, RULES), ("messages", L, MESSAGES), ("asked", M, ASKED)]),
    (asking.ever, [("rules", r, RULES), ("messages", L, MESSAGES), ("asked", (1, [0], [(0, w2, 0)], [0]), ASKED)]),
    (asking.judged_apart, [("rules", r, RULES), ("messages", L, MESSAGES), ("asked", (2, [0], [(0, w3, 1)], [1]), ASKED),
                           ("machine", M, MACHINE), ("pairs", [(0, 0)], ANY)]),
    (asking.formed, [("agents", ["bob", "ann"], (errors.BadAgents, "agents", kept([["ann", "ann"], "ann"] + [[name] for name in NO_AGENTS]))),
                     ("form", ["any", w1, "more"], (refusals.BadForm, "form", kept(["any", ["none"], w1] + [["any", layer] for layer in WRONG_LAYERS])))]),
    (exchange.exchanged, [("post", T, POST), ("kept", ["bob"], KEPT), ("adversary", "eve", ADVERSARY), ("messages", HELD, POST_MESSAGES)]),
    (exchange.fewer, [("post", T, POST), ("kept", ["bob"], KEPT), ("adversary", "eve", ADVERSARY)]),
    (exchange.agents_in, [("messages", HELD, MESSAGES)]),
    (ledover.attack_over, [("post", T, POST), ("protocols", [G], PROTOCOLS), ("messages", FIRST, POST_MESSAGES), ("kept", ["bob"], KEPT),
                           ("adversary", "eve", ADVERSARY), ("attack", ATTACK, ATTACKS)]),
    (ledover.paper_over, [("post", T, POST), ("kept", ["bob"], KEPT), ("adversary", "eve", ADVERSARY),
                          ("paper", PAPER, (refusals.BadPaper, "paper", kept(NO_MACHINES + [
                              (1, [0], [(0, ("seal", "ann"), 0)], []), (1, [0], [(0, ("label", "zoe"), 0)], [])])))]),
    (closedlists.lacking, [("rules", r, RULES), ("drops", [((), w3, ())], (errors.BadDrops, "drops", kept(
        [((), w1, ()), "abc", {0: 1}] + [[((), w1, ()), drop] for drop in NO_DROPS])))]),
    (closedlists.is_closed, [("rules", r, RULES), ("thing", [((), w2, ())], ANY)]),
    (closedlists.shown, [("rules", r, RULES), ("drop", ((), w2, ()), (errors.BadDrop, "drop", kept(NO_DROPS)))]),
    (closedlists.shown, [("rules", r, RULES), ("drop", ((), w1, ()), (errors.BadDrop, "drop", kept(NO_DROPS)))]),
    (keylots.with_keys, [("post", T, POST), ("lot", KEYS[:2], (refusals.BadLot, "lot", kept(NO_ASKED_KEYS)))]),
    (keylots.least_breaking, [("post", T, POST), ("protocols", [G], PROTOCOLS), ("messages", FIRST, POST_MESSAGES), ("keys", KEYS, ASKED_KEYS)]),
    (keylots.least_breaking, [("post", T, POST), ("protocols", [], PROTOCOLS), ("messages", FIRST, POST_MESSAGES), ("keys", KEYS, ASKED_KEYS)]),
    (keylots.greatest_standing, [("post", T, POST), ("protocols", [], PROTOCOLS), ("messages", FIRST, POST_MESSAGES), ("keys", KEYS, ASKED_KEYS)]),
    (keylots.cheapest, [("post", T, POST), ("protocols", [], PROTOCOLS), ("messages", FIRST, POST_MESSAGES), ("keys", KEYS, ASKED_KEYS),
                        ("prices", [3, 2, 1], (refusals.BadPrices, "prices", kept(["321", [1, 2], [1, 2, 3, 4], [1, 2, True], [1, 2, -3], {1: 2}])))]),
    (keylots.turns, [("post", T, POST), ("protocols", [], PROTOCOLS), ("messages", FIRST, POST_MESSAGES), ("keys", KEYS, ASKED_KEYS)]),
    (keylots.used_keys, [("post", T, POST), ("protocols", [G], PROTOCOLS), ("messages", FIRST, POST_MESSAGES), ("attack", ATTACK, ATTACKS)]),
    (charts.chart, [("post", T, POST), ("protocols", [], PROTOCOLS), ("messages", FIRST, POST_MESSAGES), ("keys", KEYS, ASKED_KEYS)]),
    (charts.judged_chart, [("post", T, POST), ("protocols", [G], PROTOCOLS), ("messages", FIRST, POST_MESSAGES), ("keys", KEYS, ASKED_KEYS),
                           ("thing", CHART, ANY)]),
    (charts.judged_chart, [("post", T, POST), ("protocols", [G], PROTOCOLS), ("messages", FIRST, POST_MESSAGES), ("keys", KEYS, ASKED_KEYS),
                           ("thing", ([], []), ANY)]),
    (meetings.meeting, [("keys", [("b",), ("a", "c")], PLAIN_KEYS), ("lots", [[("a", "c"), ("b",)]], LOTS)]),
    (meetings.charted, [("ask", ask_two, ANY), ("keys", [("b",), ("a", "c"), ("d", "e")], PLAIN_KEYS)]),
    (costs.cost, [("rules", r, RULES), ("counted", [1], COUNTED), ("layers", [w2, w2], LAYERS)]),
    (costs.costs, [("rules", r, RULES), ("counted", [1], COUNTED), ("book", BOOK[:1], (errors.BadBook, "book", kept(
        NO_BOOKS + [BOOK, [(((), w2, ()), 2, [])], [(((), w3, ()), 1, [])]])))]),
    (costs.cheap_book, [("rules", r, RULES), ("counted", [1], COUNTED), ("layers", [w2, w2], LAYERS)]),
    (wordsapart.parted, [("protocols", [G, weak], PROTOCOLS)]),
    (wordsapart.attack_unparted, [("protocols", [G, weak], PROTOCOLS), ("attack", ATTACK, UNPARTED)]),
    (wordsapart.paper_parted, [("protocols", [G, weak], PROTOCOLS), ("paper", M, (refusals.BadPaper, "paper", kept(NO_MACHINES)))]),
    (desks.Desk, [("post", T, POST), ("protocols", [G], PROTOCOLS), ("messages", FIRST, POST_MESSAGES)]),
    (desks.read_desk, [("text", DESK.text(), (refusals.BadDesk, "line", first_of([(TEXT.encode(), 0), (["agents"], 0)])))]),
    (runs.is_run, [("rules", OTHER_RULES, RULES), ("layers", [w2, w2], LAYERS), ("thing", RUN, ANY)]),
    (runs.laid_by, [("rules", OTHER_RULES, RULES), ("layers", [w2, w2], LAYERS), ("moves", RUN[:4], MOVES)]),
    (runs.offs, [("rules", OTHER_RULES, RULES), ("layers", [w2, w2], LAYERS), ("moves", RUN[:6], MOVES)]),
    (packing.packed, [("rules", OTHER_RULES, RULES), ("layers", [w2, w2], LAYERS), ("moves", RUN, PACKED_MOVES)]),
    (howsoon.numbers_by, [("post", T, POST), ("protocols", [G], PROTOCOLS), ("messages", FIRST, POST_MESSAGES), ("most", 3, MOST)]),
    (mends.goes_on, [("protocol", STUCK, PROTOCOL)]),
    (mends.mended, [("protocol", G, PROTOCOL), ("mend", ("add", 0, 1, ("seal", 0)), MENDS)]),
    (mends.mends, [("protocol", G, PROTOCOL), ("layers", [w1, ("label", 1)], NEW_LAYERS)]),
    (listening.counted_moves, [("post", T, POST), ("protocols", [G], PROTOCOLS), ("agents", ["bob", "ann"], (errors.BadAgents, "agents", kept(
        ["ann", ["ann", "ann"], ["zoe"], {"ann": 1}] + [["bob", name] for name in NO_AGENTS])))]),
    (listening.answers_needed, [("post", T, POST), ("protocols", [G], PROTOCOLS), ("messages", FIRST, POST_MESSAGES),
                                ("agents", ["bob", "ann"], (errors.BadAgents, "agents", kept(["ann", ["ann", "ann"], ["zoe"]])))]),
    (listening.run_messages, [("protocol", G, GOING), ("agent", "yan", (errors.BadAgent, "agent", kept(NO_AGENTS))),
                              ("partner", "zoe", (errors.BadPartner, "partner", kept(NO_AGENTS + ["yan"]))), ("core", 7, CORE)]),
    (listening.overheard, [("post", T, POST), ("protocol", G, GOING), ("agent", "ann", (errors.BadAgent, "agent", kept(NO_AGENTS + ["zoe"]))),
                           ("partner", "eve", (errors.BadPartner, "partner", kept(NO_AGENTS + ["zoe", "ann"])))]),
    (protocollots.falls, [("post", T, POST), ("protocols", [G, H], PROTOCOLS), ("zero", "ann", ZERO), ("one", "bob", ONE),
                          ("names", ["hide", "greet"], NAMES)]),
    (protocollots.least_falling, [("post", T, POST), ("protocols", [G, H], PROTOCOLS), ("zero", "ann", ZERO), ("one", "bob", ONE)]),
    (protocollots.greatest_lasting, [("post", T, POST), ("protocols", [G, H], PROTOCOLS), ("zero", "ann", ZERO), ("one", "bob", ONE)]),
    (protocollots.least_mixed, [("post", T, POST), ("protocols", [H], PROTOCOLS), ("zero", "ann", ZERO), ("one", "bob", ONE),
                                ("keys", KEYS, ASKED_KEYS)]),
    (protocollots.first_falling, [("post", T, POST), ("protocols", [H, G], PROTOCOLS), ("zero", "ann", ZERO), ("one", "bob", ONE)]),
    (protocollots.used_protocols, [("protocols", [H, G, weak], PROTOCOLS), ("attack", ATTACK, (refusals.BadAttack, "attack", kept(
        [(0, [("answer", "zoe", "ann", "bob", 1)]), (0,), (-1, []), (0, [("own", 1)]), (0, [None])]))),
                                   ("begun", "weak", (errors.BadName, "name", kept(["zoe", "Ann", ["weak"]])))]),
    (houses.fewest_houses, [("post", T, POST), ("protocols", [H, strong], PROTOCOLS), ("zero", "ann", ZERO), ("one", "bob", ONE)]),
    (houses.judged_houses, [("post", T, POST), ("protocols", [H], PROTOCOLS), ("zero", "ann", ZERO), ("one", "bob", ONE),
                            ("thing", [(["hide"], PAPER)], ANY)]),
    (programs.is_program, [("thing", PROGRAM, ANY)]),
    (programs.steps_of, [("program", PROGRAM, PROGRAMS)]),
    (programs.sent, [("program", PROGRAM, PROGRAMS), ("layers", [("cipher", 1), ("label", 0), w1], PART_LAYERS)]),
    (programs.ran, [("program", PROGRAM, PROGRAMS), ("zero", "ann", (errors.BadZero, "zero", kept(NO_AGENTS))),
                    ("one", "bob", (errors.BadOne, "one", kept(NO_AGENTS + ["ann"]))),
                    ("message", ([("cipher", "bob"), ("label", "ann"), w1], 7), (errors.BadMessage, "message", kept([([], 0, 0), [[w1]], ([], True)]))) ]),
    (programs.covers, [("step", STEP, (errors.BadStep, "step", kept(WRONG_ONES))),
                       ("other", (1, [("cipher", 1), w1], [("label", 1), w1]), (errors.BadOther, "other", kept(WRONG_ONES + [(0, [], [])])))]),
    (programs.sent_apart, [("program", PROGRAM, PROGRAMS), ("other", (1, [("send",)]), (errors.BadOther, "other", kept(NO_PROGRAMS + [BEGIN])))]),
    (programs.program_of, [("part", 1, (errors.BadPart, "part", kept([2, "1", [1]]))), ("steps", [STEP, (1, [], [w1])], (
        errors.BadSteps, "index", first_of([([], 0), ((), 0), (STEP, 0)] + [([STEP, bad], 1) for bad in WRONG_ONES + [(0, [], [])]])))]),
    (programs.protocol_of, [("name", "some", (errors.BadName, "name", kept(NO_AGENTS))), ("programs", [BEGIN, PROGRAM], (
        errors.BadPrograms, "index", first_of([([], 0), ([PROGRAM], 0), ([BEGIN, (1, [])], 1)] + [([BEGIN, bad], 1) for bad in NO_PROGRAMS])))]),
    (programs.reached, [("program", PROGRAM, PROGRAMS), ("place", (2, 1, 0), PLACE)]),
    (programs.dead, [("program", PROGRAM, PROGRAMS)]),
    (programtexts.program_text, [("program", PROGRAM, PROGRAMS)]),
    (programtexts.read_program, [("text", programtexts.program_text(PROGRAM), ANY)]),
    (ways.is_way, [("rules", OTHER_RULES, RULES), ("layers", [w2, w2], LAYERS), ("thing", WAY, ANY)]),
    (ways.number_of, [("rules", OTHER_RULES, RULES), ("layers", [w2, w2], LAYERS), ("way", WAY, WAYS)]),
    (ways.moves_of, [("rules", OTHER_RULES, RULES), ("layers", [w2, w2], LAYERS), ("way", WAY, WAYS),
                     ("begin", 2, (errors.BadBegin, "begin", kept(NO_NUMBERS))), ("many", 3, MANY)]),
    (ways.layers_at, [("rules", OTHER_RULES, RULES), ("layers", [w2, w2], LAYERS), ("way", WAY, WAYS),
                      ("moment", 6, (errors.BadMoment, "moment", kept(NO_NUMBERS + [9, 10 ** 3000])))]),
    (ways.highest, [("rules", OTHER_RULES, RULES), ("layers", [w2, w2], LAYERS), ("way", WAY, WAYS)]),
    (ways.way_offs, [("rules", OTHER_RULES, RULES), ("layers", [w2, w2], LAYERS), ("way", WAY, WAYS)]),
    (tightening.loose_stretch, [("rules", OTHER_RULES, RULES), ("layers", [w2, w2], LAYERS), ("moves", RUN, ATTACK_MOVES)]),
    (tightening.tightened, [("rules", OTHER_RULES, RULES), ("layers", [w2, w2], LAYERS), ("moves", RUN, ATTACK_MOVES)]),
    (prices.first_dear, [("rules", r, RULES), ("counted", [0], COUNTED), ("prices", PRICED[:1], PRICES)]),
    (prices.is_price_list, [("rules", r, RULES), ("counted", [0], COUNTED), ("thing", PRICED, ANY)]),
    (prices.least_sum, [("prices", PRICED, PRICES), ("layers", [w2, w2], LAYERS)]),
    (prices.within, [("rules", r, RULES), ("counted", [1], COUNTED), ("layers", [w2, w2], LAYERS), ("most", 1, MOST)]),
    (prices.within, [("rules", r, RULES), ("counted", [1], COUNTED), ("layers", [w2, w2], LAYERS), ("most", 2, MOST)]),
    (taken.rules_without, [("post", T, POST), ("protocols", [H], PROTOCOLS), ("name", "hide", NAME), ("agent", "bob", TAKEN_AGENT),
                           ("partner", "ann", TAKEN_PARTNER)]),
    (taken.taken_in, [("post", T, POST), ("protocols", [H], PROTOCOLS), ("name", "hide", NAME), ("part", 1, TAKEN_PART),
                      ("agent", "bob", TAKEN_AGENT), ("partner", "ann", TAKEN_PARTNER)]),
    (taken.attack_in, [("post", T, POST), ("protocols", [H], PROTOCOLS), ("name", "hide", NAME), ("part", 1, TAKEN_PART),
                       ("agent", "bob", TAKEN_AGENT), ("partner", "ann", TAKEN_PARTNER), ("most", 3, MOST)]),
    (taken.is_attack_in, [("post", T, POST), ("protocols", [H], PROTOCOLS), ("name", "hide", NAME), ("part", 1, TAKEN_PART),
                          ("agent", "bob", TAKEN_AGENT), ("partner", "ann", TAKEN_PARTNER),
                          ("thing", taken.attack_in(T, [H], "hide", 1, "bob", "ann", 3), ANY)]),
    (taken.paper_in, [("post", T, POST), ("protocols", [SIGN], PROTOCOLS), ("name", "sign", NAME), ("part", 1, TAKEN_PART),
                      ("agent", "bob", TAKEN_AGENT), ("partner", "ann", TAKEN_PARTNER)]),
    (taken.is_paper_in, [("post", T, POST), ("protocols", [SIGN], PROTOCOLS), ("name", "sign", NAME), ("part", 1, TAKEN_PART),
                         ("agent", "bob", TAKEN_AGENT), ("partner", "ann", TAKEN_PARTNER),
                         ("thing", taken.paper_in(T, [SIGN], "sign", 1, "bob", "ann"), ANY)]),
    (standing.stands, [("post", T, POST), ("protocols", [H, G], PROTOCOLS), ("name", "hide", NAME)]),
    (standing.helping, [("post", T, POST), ("protocols", [H, weak], PROTOCOLS), ("name", "weak", NAME), ("layers", [w1, ("label", 0)], NEW_LAYERS)]),
    (standing.lots_of, [("protocol", weak, PROTOCOL), ("layers", [w1, ("label", 0)], NEW_LAYERS), ("many", 1, MANY)]),
    (standing.least_lots, [("post", T, POST), ("protocols", [weak], PROTOCOLS), ("name", "weak", NAME), ("layers", [("label", 0)], NEW_LAYERS),
                           ("most", 1, MOST)]),
    (standing.shown_mend, [("post", T, POST), ("protocols", [weak], PROTOCOLS), ("name", "weak", NAME), ("layers", [("label", 0)], NEW_LAYERS),
                           ("most", 1, MOST)]),
    (standing.shown_mend, [("post", T, POST), ("protocols", [weak], PROTOCOLS), ("name", "weak", NAME), ("layers", [w1], NEW_LAYERS), ("most", 1, MOST)]),
    (standing.is_mend, [("post", T, POST), ("protocols", [weak], PROTOCOLS), ("name", "weak", NAME), ("layers", [("label", 0)], NEW_LAYERS),
                        ("most", 1, MOST), ("thing", standing.shown_mend(T, [weak], "weak", [("label", 0)], 1), ANY)]),
    (standing.is_fall, [("post", T, POST), ("protocols", [weak], PROTOCOLS), ("name", "weak", NAME), ("layers", [w1], NEW_LAYERS),
                        ("most", 1, MOST), ("thing", standing.shown_mend(T, [weak], "weak", [w1], 1), ANY)]),
    (alike.least_machine, [("machine", M, MACHINE)]),
    (alike.only_of, [("machine", M, MACHINE), ("other", (1, [0], [(0, w2, 0)], [0]), OTHER_MACHINE)]),
    (alike.parting_layers, [("machine", M, MACHINE), ("other", (1, [0], [(0, w2, 0)], [0]), OTHER_MACHINE)]),
    (alike.taken_counts, [("machine", M, MACHINE), ("long", 4, LONG)]),
    (alike.rules_parted, [("rules", r, RULES), ("messages", L, MESSAGES), ("others", r[:1], OTHERS),
                          ("besides", L, (refusals.BadBesides, "besides", kept(NO_MESSAGES)))]),
]
MORE_RULES = WEAK_RULES
MORE_PROTOCOLS = [strong]

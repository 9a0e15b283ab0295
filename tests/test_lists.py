"""[2.1]: lists and tuples mean the same: each list of what is passed turned to a tuple and back, one at a time."""

import random
import unittest

from roadheld import alike, answers, asking, attacks, audits, books, charts, closedlists, comings, costs, desks, drops
from roadheld import exchange, growing, houses, howsoon, keylots, ledover, listening, machines, meetings, mends, messages, packing
from roadheld import papers, papertexts, posts, prices, programs, programtexts, protocollots, protocols, rules, runs, standing, taken
from roadheld import tightening, ways, wordsapart
from roadheld.agents import Post
from roadheld.desks import Desk
from roadheld.errors import ProtocolError
from roadheld.protocols import Proto
from roadheld.refusals import BadPrices
from tests import plain
from tests.calls import CALLS
from tests.samples import H, P, listed, random_protocol, random_question, tupled, w1, weak
from tests.test_interface import INTERFACE, named

LETTERS = [("cipher", "ann"), ("label", "bob"), ("seal", "ann"), ("word", 1), ("word", 2)]
ROWS = [("open",), ("check", "label", "partner"), ("check", "seal", "mine"), ("check", "word", 1), ("cipher", "partner"), ("seal",),
        ("label", "mine"), ("word", 1), ("send",)]
# What is passed where there are no lists.
NO_LISTS = {"post", "protocol", "text", "zero", "one", "agent", "partner", "adversary", "core", "name", "begun", "part", "most", "many", "long",
            "rule", "begin", "moment", "ask"}


def turned_one(thing):
    """All that comes of nested lists and tuples if one of them is turned."""
    if isinstance(thing, (list, tuple)):
        kind = thing.__class__
        yield tuple(thing) if kind is list else list(thing)
        for at, part in enumerate(thing):
            for other in turned_one(part):
                yield kind(list(thing[:at]) + [other] + list(thing[at + 1:]))


def told_as(thing):
    """What is told, objects by what they hold; of equal answers the same."""
    if isinstance(thing, Desk):
        return ("desk", thing.text())
    if isinstance(thing, Post):
        return ("post", thing.agents(), thing.keyring())
    if isinstance(thing, Proto):
        return ("protocol", thing.name(), thing.steps())
    if isinstance(thing, (list, tuple)):
        return thing.__class__(told_as(part) for part in thing)
    return thing


def outcome(function, passed):
    """What is told, with its lists as lists, its tuples as tuples; or the class of the error, and what it keeps."""
    try:
        told = function(*passed)
    except ProtocolError as wrong:
        kept = {name: repr(tupled(value)) for name, value in vars(wrong).items()}
        return ("error", wrong.__class__, kept)
    if function is growing.turned:
        # The third part of a rule is the very object.
        told = [(takes, puts) for takes, puts, _ in told]
    return ("told", repr(told_as(told)))


def row(chance, many, letters=LETTERS):
    return [chance.choice(letters) for _ in range(chance.choice(many))]


def some_rules(chance):
    """Rules many of which take nothing, put nothing, or take and put the same."""
    few = chance.sample(LETTERS, 2)
    return [(row(chance, (0, 0, 1, 1, 2, 3), few), row(chance, (0, 0, 1, 1, 2), few), at) for at in range(chance.randint(0, 6))]


def some_program(chance, deep=2):
    part = chance.randint(0, 1)

    def rows(left):
        return [("either", rows(left - 1), rows(left - 1)) if left and chance.random() < 0.2 else chance.choice(ROWS)
                for _ in range(chance.randint(0, 3))]

    return (part, rows(deep) + ([("send",)] if chance.random() < 0.7 else []))


def by_rules(chance):
    """What takes rules, or what is told of them."""
    some, others, layers = some_rules(chance), some_rules(chance), row(chance, (0, 1, 2))
    counted = [at for at in range(len(some)) if chance.random() < 0.4]
    every = [drop for drop, _ in drops.all_drops(some)]
    drop = chance.choice(every) if every and chance.random() < 0.8 else ((), ("label", "zoe"), ())
    few = [other for other in every if chance.random() < 0.9]
    book = books.book_of(some, drop) or []
    priced = [(other, chance.randint(0, 2)) for other in few]
    yield from [(drops.all_drops, (some,)), (drops.down, (some, layers)), (books.is_book, (some, book)), (books.counts, (book,)),
                (books.book_of, (some, drop)), (books.book_down, (some, layers)), (closedlists.lacking, (some, few)),
                (closedlists.is_closed, (some, few)), (closedlists.shown, (some, drop)), (costs.cost, (some, counted, layers)),
                (costs.costs, (some, counted, book)), (costs.cheap_book, (some, counted, layers)),
                (prices.first_dear, (some, counted, priced)), (prices.is_price_list, (some, counted, priced)),
                (prices.least_sum, (priced, layers)), (prices.within, (some, counted, layers, chance.randint(0, 3))),
                (rules.after, (some, layers, 0)), (rules.controls, (some,)), (growing.turned, (some,))]
    way = books.book_down(some, layers)
    moves = [] if way is None else ways.moves_of(some, layers, way, 0, 20)
    for function, more in ((ways.is_way, ()), (ways.number_of, ()), (ways.moves_of, (0, 20)), (ways.layers_at, (0,)), (ways.highest, ()), (ways.way_offs, ())):
        yield (function, (some, layers, ([], []) if way is None else way) + more)
    for function in (runs.is_run, runs.laid_by, runs.offs, packing.packed, tightening.loose_stretch, tightening.tightened):
        yield (function, (some, layers, moves))
    held = [(row(chance, (0, 1, 2, 3)), at) for at in range(chance.randint(0, 2))]
    machine, other = plain.random_machine(chance, LETTERS, 3, 4), plain.random_machine(chance, LETTERS, 2, 3)
    attack, told = comings.attack_to(some, held, layers, 5), asking.ever(some, held, machine)
    yield from [(growing.grown, (some, machine)), (growing.machine_of, (held,)), (comings.fewest_moves, (some, held, layers)),
                (comings.attack_to, (some, held, layers, 5)), (comings.is_attack_to, (some, held, layers, attack)),
                (comings.never, (some, held, layers)), (comings.judged_never, (some, held, layers, machine)),
                (papers.judged_paper, (some, held, machine)), (papers.is_paper, (some, held, machine)), (asking.ever, (some, held, machine)),
                (asking.judged_apart, (some, held, machine, other, [])), (alike.rules_parted, (some, held, others, held[:1]))]
    if told[0] == "never":
        yield (asking.judged_apart, (some, held, machine, told[1], told[2]))


def by_machines(chance):
    """What takes machines, forms, messages, lists of layers of parts, programs, lots."""
    machine, other, layers = plain.random_machine(chance, LETTERS, 3, 4), plain.random_machine(chance, LETTERS, 2, 3), row(chance, (0, 1, 2))
    yield from [(machines.is_machine, (machine,)), (machines.states_behind, (machine, list(range(chance.randint(0, 2))), layers)),
                (machines.is_taken, (machine, layers)), (machines.both, (machine, other)), (machines.either, (machine, other)),
                (machines.pruned, (machine,)), (alike.least_machine, (machine,)), (alike.only_of, (machine, other)),
                (alike.parting_layers, (machine, other)), (alike.taken_counts, (machine, 3)), (papertexts.paper_text, (machine,)),
                (asking.formed, (["ann"][:chance.randint(0, 1)], chance.choice([[], ["any", w1], ["more", ["word", 2]]]))),
                (messages.message_text, ((layers, 3),))]
    program, its = some_program(chance), some_program(chance)
    steps = programs.steps_of(program)
    parts = row(chance, (0, 1, 2), [("cipher", 0), ("cipher", 1), ("label", 0), ("word", 1)])
    yield from [(programs.is_program, (program,)), (programs.steps_of, (program,)), (programs.sent, (program, parts)),
                (programs.ran, (program, "ann", "bob", (layers, 1))), (programs.sent_apart, (program, its)), (programs.dead, (program,)),
                (programs.reached, (program, (0,))), (programs.program_of, (program[0], steps + [(program[0], [], [])])),
                (programs.protocol_of, ("some", [(0, [("send",)]), program])), (programs.covers, ((program[0], parts, []), (program[0], [], []))),
                (programtexts.program_text, (program,)), (protocols.dealt, (parts, "ann", "bob")),
                (protocols.Proto, ("some", [(0, [], []), (1, [], parts)])), (mends.mends, (weak, parts[:1])),
                (mends.mended, (weak, ("add", 0, chance.randint(0, 3), ("label", 0))))]
    keys = chance.choice([[(), ("a",), ("b", "a")], ["a", "b"], [], [()]])
    lots = [chance.sample(keys, chance.randint(0, len(keys))) for _ in range(chance.randint(0, 2))]
    yield from [(meetings.meeting, (keys, lots)), (meetings.charted, (lambda lot: len(lot) > 1, keys))]


def by_questions(chance):
    """What takes posts, protocols, messages, keys, and what is told of them."""
    question = random_question(chance)
    post, its, held = question
    answer, attack = answers.answer_for(*question), attacks.attack_of(*question, 30)
    yield from [(answers.answer_for, question), (answers.is_answer, question + (answer,)), (answers.is_more, question + (random_question(chance),)),
                (attacks.fewest, question), (attacks.attack_of, question + (30,)), (attacks.judged_attack, question + (attack,)),
                (audits.audit_text, question + (answer,)), (howsoon.numbers_by, question + (2,)), (desks.Desk, question),
                (listening.answers_needed, question + ([],)), (listening.counted_moves, (post, its, []))]
    keys = [key for key in (("cipher", post.agents()[0]), ("seal", post.agents()[-1])) if key not in post.keyring()][:chance.randint(0, 2)]
    for function, more in ((keylots.least_breaking, ()), (keylots.greatest_standing, ()), (keylots.turns, ()), (keylots.cheapest, ([1] * len(keys),)),
                           (charts.chart, ()), (charts.judged_chart, (charts.chart(*question, keys),))):
        yield (function, question + (keys,) + more)
    lost = [name for name in post.agents() if ("cipher", name) in post.keyring() and ("seal", name) in post.keyring()][0]
    kept = post.agents()[:chance.randint(0, 1)]
    yield from [(keylots.with_keys, (post, keys)), (exchange.exchanged, (post, kept, lost, held)), (exchange.fewer, (post, kept, lost)),
                (exchange.agents_in, (held,)), (posts.done, question + (("put", ("word", 1), 0),)),
                (posts.held_by, (post, its, [("own", 1), ("put", ("word", 1), 0)][:chance.randint(0, 2)])),
                (posts.refused, (post, its, [("own", 1), ("take", ("word", 1), 0)])), (posts.through, (post, its, []))]
    if attack is not None and attack[0] != "long":
        yield (keylots.used_keys, question + (attack,))
        yield (ledover.attack_over, question + (kept, lost, attack))
    if answer[0] == "safe":
        yield (ledover.paper_over, (post, post.agents(), lost, answer[1]))


def by_protocols(chance):
    """What takes lists of protocols, names of theirs, and lots of mends."""
    its, machine, names = [weak, H], plain.random_machine(chance, LETTERS, 3, 4), ["weak"][:chance.randint(0, 1)]
    moves = [("put", w1), ("answer", "hide", "ann", "bob", 0)][:chance.randint(0, 2)]
    together = (P, its, "ann", "bob")
    yield from [(protocollots.falls, together + (names,)), (protocollots.least_mixed, together + ([("cipher", "ann")][:chance.randint(0, 1)],)),
                (protocollots.used_protocols, (its, (0, moves), "weak")), (houses.judged_houses, together + ([(names, machine)],)),
                (houses.judged_houses, together + ([(["hide"], machine), (["weak"], machine)],)), (wordsapart.parted, (its,)),
                (wordsapart.attack_unparted, (its, (0, moves))), (wordsapart.paper_parted, (its, machine)),
                (taken.is_attack_in, (P, [H], "hide", 1, "bob", "ann", taken.attack_in(P, [H], "hide", 1, "bob", "ann", 9))),
                (taken.is_paper_in, (P, [H], "hide", 1, "bob", "ann", machine))]
    layers = [("label", 0)][:chance.randint(0, 1)]
    question = (P, [random_protocol(chance, "one"), weak], chance.choice(["one", "weak"]), layers, chance.randint(0, 1))
    told = standing.shown_mend(*question)
    yield from [(standing.helping, question[:4]), (standing.least_lots, question), (standing.shown_mend, question),
                (standing.is_mend, question + (told,)), (standing.is_fall, question + (told,)), (standing.lots_of, (weak, layers, 1))]


class TestOneAtATime(unittest.TestCase):
    def alike(self, function, passed):
        """Asks with each list turned, one at a time; counts how often."""
        due = outcome(function, passed)
        many = 0
        for at, thing in enumerate(passed):
            for other in turned_one(thing):
                told = outcome(function, passed[:at] + (other,) + passed[at + 1:])
                if told != due:
                    self.fail((function.__name__, passed, at, other, due, told))
                many += 1
        return many

    def drawn(self, draw, seeds):
        many = 0
        for seed in range(seeds):
            chance = random.Random(seed)
            for function, passed in list(draw(chance)):
                many += self.alike(function, passed)
                # Bent as well: what is wrong is refused alike.
                at = chance.randrange(len(passed))
                if isinstance(passed[at], (list, tuple)):
                    wrong = list(plain.bent(passed[at], [None, 0, (), [], True]))
                    for thing in chance.sample(wrong, min(2, len(wrong))):
                        many += self.alike(function, passed[:at] + (thing,) + passed[at + 1:])
        return many

    def test_rules(self):
        self.assertGreater(self.drawn(by_rules, 60), 50000)

    def test_machines(self):
        self.assertGreater(self.drawn(by_machines, 40), 20000)

    def test_questions(self):
        self.assertGreater(self.drawn(by_questions, 15), 10000)

    def test_protocols(self):
        self.assertGreater(self.drawn(by_protocols, 15), 5000)

    def test_each_right_call(self):
        for function, parameters in CALLS:
            self.alike(function, tuple(good for _, good, _ in parameters))

    def test_each_name_is_asked(self):
        asked = {function for function, _ in CALLS}
        for draw in (by_rules, by_machines, by_questions, by_protocols):
            for seed in range(5):
                asked |= {function for function, _ in draw(random.Random(seed))}
        names = {(function.__module__.split(".")[1], function.__name__) for function in asked}
        for module, texts in INTERFACE.items():
            for text in texts:
                if module in ("errors", "refusals"):
                    continue
                name, parameters = named(text.replace("class ", "").split(" with ")[0])
                if set(parameters) - NO_LISTS:
                    self.assertIn((module, name), names)


class TestByHand(unittest.TestCase):
    """Rules that take nothing and put the same, each written with [] or ()."""

    C, L = ("cipher", "a"), ("label", "a")

    def one_answer(self, ask):
        told = [ask(first, other) for first in ([], ()) for other in ([], ())]
        self.assertEqual(told, told[:1] * 4)
        return told[0]

    def test_the_first_rule_is_told(self):
        book, used = self.one_answer(lambda first, other: books.book_down([([self.C, self.L], [], 0), (first, [self.C], 1), (other, [self.C], 2)],
                                                                           [self.L]))
        self.assertEqual((book[-1][1], used), (1, [2]))
        self.assertEqual(self.one_answer(lambda first, other: comings.attack_to(
            [([self.L], [self.C], 0), (first, [self.C], 1), (other, [self.C], 2)], [([], 0)], [self.C], 5)), (0, [1]))

    def test_puts_of_nothing(self):
        book, _ = self.one_answer(lambda first, other: books.book_down([([self.C], first, 0), ([self.C], other, 1)], [self.C]))
        self.assertEqual(book, [(((), self.C, ()), 0, [])])

    def test_empty_lists_in_what_is_told(self):
        asked = [(([], self.C, ()), 0, ()), (((), self.C, []), 0, []), [[[], list(self.C), []], 0, []]]
        self.assertTrue(books.is_book([([self.C], [], 0)], asked))
        for drop in [part[0] for part in asked]:
            self.assertEqual(closedlists.lacking([([self.C], (), 0)], []), tupled(drop))
            self.assertTrue(prices.is_price_list([([self.C], (), 0)], (), [(drop, 0)]))
            self.assertEqual(prices.least_sum([(drop, 4)], (self.C, list(self.C))), 8)
            self.assertEqual(books.book_of([[[self.C], (), 0]], drop), [(((), self.C, ()), 0, [])])
        for other in asked[1:]:
            with self.assertRaises(BadPrices):
                prices.least_sum([(asked[0][0], 4), (other[0], 4)], [])

    def test_the_same_drop_twice(self):
        pairs = [(((), self.C, [list(self.L)]), 1), ([[], list(self.C), (self.L,)], 1)]
        self.assertFalse(prices.is_price_list([], [], pairs))
        self.assertTrue(prices.is_price_list([], [], pairs[:1]))
        self.assertTrue(closedlists.is_closed([], [drop for drop, _ in pairs]))

    def test_edits_of_desks(self):
        told = []
        for kind in (listed, tupled):
            desk = desks.Desk(P, kind([weak]), kind([([("label", "ann")], 1)]))
            for edit in (("give", ("cipher", "ann")), ("message", ([], 0)), ("step", "weak", 0, (0, [], [])), ("burn", 0)):
                told.append(desk.edit(kind(edit)))
            told.extend([desk.text(), desk.edits(), desk.answer()])
        self.assertEqual(told[:7], told[7:])
        self.assertEqual(told[:4], ["more", "more", "other", "less"])


if __name__ == "__main__":
    unittest.main()

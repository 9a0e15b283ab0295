"""Judges of rows, and what tells such rows, asked again and again with inputs that change a little, by turns."""

import random
import time
import unittest

from roadheld.agents import Post
from roadheld.answers import answer_for
from roadheld.books import book_of, counts, is_book
from roadheld.closedlists import is_closed, lacking, shown
from roadheld.costs import costs
from roadheld.drops import down
from roadheld.errors import BadBook, BadDrops, BadLayers, BadRules
from roadheld.machines import is_machine
from roadheld.mends import mended
from roadheld.prices import first_dear, is_price_list, least_sum
from roadheld.refusals import BadPrices
from roadheld.rules import first_messages, rules_of
from roadheld.standing import is_fall, is_mend, least_lots, lots_of, shown_mend
from tests import plain
from tests.samples import P, T, listed, random_protocol, strong, tupled, w1, w2, w3, weak
from tests.test_books import is_right
from tests.test_closedlists import lacking_by_trying
from tests.test_costs import pairs_by_trying
from tests.test_prices import dear_slowly
from tests.test_standing import honest, replaced, stands_slowly, with_lot

LETTERS = [w1, w2, w3]


def is_row(thing):
    return isinstance(thing, (list, tuple))


def is_number(thing):
    return isinstance(thing, int) and not isinstance(thing, bool) and thing >= 0


def is_drop(thing):
    """Whether something nested is a drop of words."""
    def is_layer(part):
        return is_row(part) and len(part) == 2 and isinstance(part[0], str) and part[0] == "word" and is_number(part[1]) and part[1] < 10

    if not is_row(thing) or len(thing) != 3 or not is_row(thing[0]) or not is_row(thing[2]):
        return False
    return is_layer(thing[1]) and all(is_layer(part) for part in list(thing[0]) + list(thing[2]))


def prices_slowly(thing):
    """A price list as a dict, None for anything else."""
    if not is_row(thing) or not all(is_row(pair) and len(pair) == 2 and is_drop(pair[0]) and is_number(pair[1]) for pair in thing):
        return None
    prices = {tupled(drop): price for drop, price in thing}
    return prices if len(prices) == len(thing) else None


def changed(chance, rows):
    """Rows with one bent, one left out, one twice, or with lists for tuples; or as they are."""
    kind = chance.choice(["bent", "out", "twice", "listed", "tupled", "row", "same", "turned"])
    rows = list(rows)
    if kind in ("listed", "tupled"):
        return listed(rows) if kind == "listed" else tupled(rows)
    if not rows or kind == "same":
        return rows
    at = chance.randrange(len(rows))
    if kind == "bent":
        rows[at] = chance.choice(list(plain.bent(rows[at], [0, 1, 2, True, None, (), w1, (w2,), "word"])))
    elif kind == "out":
        del rows[at]
    elif kind == "twice":
        rows.insert(at, rows[at])
    elif kind == "row":
        rows[at] = listed(rows[at])
    else:
        rows = rows[1:] + rows[:1]
    return rows


def raised(kind, function, *passed):
    """Whether an error of just this class comes."""
    try:
        function(*passed)
    except kind as wrong:
        return wrong.__class__ is kind
    return False


class Asked:
    """A question about rules, asked often."""

    def __init__(self, seed):
        chance = self.chance = random.Random(seed)
        self.rules = plain.random_rules(chance, LETTERS, chance.randint(2, 8), (0, 3), (0, 3))
        self.counted = [at for at in range(len(self.rules)) if chance.random() < 0.4]
        self.layers = plain.random_layers(chance, LETTERS, 0, 3)
        self.numbers = plain.drops_by_trying(self.rules)
        pairs = pairs_by_trying(self.rules, self.counted)
        self.priced = [(drop, pair[0]) for drop, pair in pairs.items()]
        self.drops = sorted(self.numbers)
        self.controls = sorted(plain.beginnings(self.rules)) + [(w3, w3, w3, w3)]

    def written(self, rules):
        """The rules as they are, or with lists for tuples, tuples for lists."""
        return self.chance.choice([rules, rules, listed(rules), tupled(rules)])

    def some_prices(self):
        rows = changed(self.chance, self.chance.sample(self.priced, len(self.priced))[:8])
        if rows and self.chance.random() < 0.3:
            rows = list(rows) + [((self.chance.choice(self.controls), self.chance.choice(LETTERS), self.chance.choice(self.controls)), 0)]
        return rows

    def some_drops(self):
        return changed(self.chance, self.drops if self.chance.random() < 0.6 else self.drops[:6])


class TestRules(unittest.TestCase):
    @classmethod
    def setUpClass(cls):
        cls.asked = [Asked(seed) for seed in range(40)]
        cls.seen = {}

    def see(self, name, told):
        self.seen.setdefault(name, set()).add(told)

    def price_lists(self, asked):
        rules, thing = asked.written(asked.rules), asked.some_prices()
        prices = prices_slowly(thing)
        if prices is None:
            self.assertIs(is_price_list(rules, asked.counted, thing), False)
            self.assertTrue(raised(BadPrices, first_dear, rules, asked.counted, thing))
            self.assertTrue(raised(BadPrices, least_sum, thing, asked.layers))
            self.see("prices", None)
            return
        due = dear_slowly(asked.rules, asked.counted, prices)
        self.assertEqual(first_dear(rules, asked.counted, thing), due)
        self.assertIs(is_price_list(rules, asked.counted, thing), due is None)
        self.assertEqual(least_sum(thing, asked.layers), plain.through(prices, (), asked.layers).get(()))
        self.see("prices", due is None)

    def closed_lists(self, asked):
        rules, thing = asked.written(asked.rules), asked.some_drops()
        if not is_row(thing) or not all(is_drop(drop) for drop in thing):
            self.assertIs(is_closed(rules, thing), False)
            self.assertTrue(raised(BadDrops, lacking, rules, thing))
            self.see("drops", None)
            return
        due = lacking_by_trying(asked.rules, tupled(thing))
        self.assertEqual(lacking(rules, thing), due)
        self.assertIs(is_closed(rules, thing), due is None)
        self.see("drops", due is None)

    def books(self, asked):
        rules, chance = asked.written(asked.rules), asked.chance
        drop = chance.choice(asked.drops) if asked.drops and chance.random() < 0.8 else (
            chance.choice(asked.controls), chance.choice(LETTERS), chance.choice(asked.controls))
        book, told = book_of(rules, drop), shown(rules, drop)
        if drop not in asked.numbers:
            self.assertEqual((book, told), (None, ("closed", asked.drops)))
            self.see("shown", False)
            return
        self.see("shown", True)
        self.assertEqual(told, ("book", book))
        self.assertTrue(plain.is_book(asked.rules, book))
        self.assertEqual((book[-1][0], counts(book)), (drop, [asked.numbers[row[0]] for row in book]))
        thing = changed(chance, book)
        due = is_right(asked.rules, tupled(thing))
        self.assertIs(is_book(rules, thing), due)
        self.see("book", due)
        if not due:
            self.assertTrue(raised(BadBook, costs, rules, asked.counted, thing))

    def test_by_turns(self):
        begin = time.time()
        for at in range(30):
            for asked in self.asked:
                for ask in (self.price_lists, self.closed_lists, self.books):
                    ask(asked)
                if at % 10 == 0:
                    self.assertEqual(down(asked.rules, asked.layers), plain.through(asked.numbers, (), asked.layers).get(()))
        self.assertEqual({name: len(told) for name, told in self.seen.items()}, {"prices": 3, "drops": 3, "shown": 2, "book": 2})
        self.assertLess(time.time() - begin, 60)

    def test_what_is_passed_is_looked_at_each_time(self):
        rules = [[[["word", 1]], [["word", 2]], 0], [[["word", 2]], [], 1], [[], [["word", 1]], 2]]
        prices = [[[[], ["word", 1], []], 2], [[[], ["word", 2], []], 1]]
        drops = [drop for drop, _ in prices]
        book = [[[[], ["word", 2], []], 1, []], [[[], ["word", 1], []], 0, [0]]]
        for _ in range(200):
            self.assertIsNone(first_dear(rules, [0, 1], prices))
            self.assertTrue(is_price_list(rules, [0, 1], prices) and is_closed(rules, drops) and is_book(rules, book))
            self.assertEqual(least_sum(prices, [["word", 1], ["word", 2]]), 3)
            prices[0][1] = 3
            self.assertEqual(first_dear(rules, [0, 1], prices), ((), w1, ()))
            self.assertEqual(least_sum(prices, [["word", 1]]), 3)
            prices[0][0][1][1] = 3
            self.assertFalse(is_price_list(rules, [0, 1], prices) or is_closed(rules, drops))
            self.assertEqual(lacking(rules, drops), ((), w1, ()))
            prices[0][0][1][1], prices[0][1] = True, 2
            self.assertTrue(raised(BadPrices, first_dear, rules, [0, 1], prices) and raised(BadDrops, lacking, rules, drops))
            prices[0][0][1][1] = 1
            book[1][2].append(0)
            self.assertFalse(is_book(rules, book))
            rules[0][1].append(["word", 2])
            self.assertTrue(is_book(rules, book))
            self.assertTrue(is_price_list(rules, [1, 0], prices) and is_closed(rules, drops))
            self.assertEqual(first_dear(rules, [0], prices), ((), w2, ()))
            rules[2][0].append(["word", 10])
            for function, more in ((first_dear, ([], prices)), (is_price_list, ([], prices)), (is_closed, (drops,)), (is_book, (book,))):
                self.assertTrue(raised(BadRules, function, rules, *more))
            rules[2][0].pop()
            rules[0][1].pop()
            book[1][2].pop()
            self.assertTrue(raised(BadLayers, least_sum, prices, [["word", 1], ["seal", "word"]]))


def is_paper_slowly(rules, message, machine):
    """Whether a machine is a paper of one message's layers."""
    if not is_machine(machine) or not plain.is_taken(machine, message) or set(machine[1]) & set(machine[3]):
        return False
    return all(plain.is_kept(machine, rule) for rule in rules)


class Standing:
    """A question about mends, asked often."""

    def __init__(self, seed):
        chance = self.chance = random.Random(seed)
        protocols = [random_protocol(chance, "one"), random_protocol(chance, "two")][:chance.randint(1, 2)]
        self.protocols = [[weak], [strong], protocols, protocols][seed % 4]
        self.name = self.protocols[0].name()
        self.post = [P, T, Post(["ann", "bob", "cid", "eve"], [("cipher", "eve"), ("seal", "eve")])][seed % 3]
        self.layers = chance.sample([("label", 0), ("word", 1), ("label", 1)], chance.randint(0, 1))
        self.most = chance.randint(0, 1)
        self.question = (self.post, self.protocols, self.name, self.layers, self.most)
        self.lots = lots_of(self.protocols[0], self.layers, self.most)
        self.told = shown_mend(*self.question)
        self.rules = {}

    def with_lot(self, lot):
        """The rules with a lot, and the layers that a begin makes."""
        key = tupled(lot)
        if key not in self.rules:
            its = replaced(self.protocols, self.name, with_lot(self.protocols[0], lot))
            begun = first_messages(self.post, its[:1], *honest(self.post)[:2], 0)[0][0]
            self.rules[key] = ([(tuple(takes), tuple(puts)) for takes, puts, _ in rules_of(self.post, its)], begun)
        return self.rules[key]

    def is_fall_slowly(self, thing):
        if not is_row(thing) or len(thing) != 2 or thing[0] != "falls" or not is_row(thing[1]) or len(thing[1]) != len(self.lots):
            return False
        for part, lot in zip(thing[1], self.lots):
            if not is_row(part) or len(part) != 3 or repr(tupled(part[0])) != repr(tupled(lot)):
                return False
            rules, begun = self.with_lot(lot)
            if not is_row(part[1]) or not is_row(part[2]) or not all(is_number(at) and at < len(part[1]) for at in part[2]):
                return False
            if not is_book([(takes, puts, 0) for takes, puts in rules], part[1]) or not plain.is_book([(*rule, 0) for rule in rules], tupled(part[1])):
                return False
            if not plain.is_way_through(tupled(part[1]), part[2], begun, ()):
                return False
        return True

    def is_mend_slowly(self, thing):
        if not is_row(thing) or len(thing) != 3 or thing[0] != "stands":
            return False
        if repr(tupled(thing[1])) not in [repr(tupled(lot)) for lot in self.lots]:
            return False
        rules, begun = self.with_lot(tupled(thing[1]))
        return is_paper_slowly(rules, begun, tupled(thing[2]) if is_row(thing[2]) else thing[2])


class TestStanding(unittest.TestCase):
    @classmethod
    def setUpClass(cls):
        cls.asked = [Standing(seed) for seed in range(24)]

    def test_told(self):
        words = set()
        for asked in self.asked:
            stand = [lot for lot in asked.lots if stands_slowly(asked.post, replaced(
                asked.protocols, asked.name, with_lot(asked.protocols[0], lot)), asked.name)]
            least = [lot for lot in stand if len(lot) == len(stand[0])]
            self.assertEqual(least_lots(*asked.question), least)
            words.add(asked.told[0])
            self.assertEqual(asked.told[0], "stands" if least else "falls")
            if least:
                self.assertEqual(asked.told[1], least[0])
        self.assertEqual(words, {"stands", "falls"})

    def test_by_turns(self):
        begin = time.time()
        right = {"stands": 0, "falls": 0}
        for at in range(12):
            for asked in self.asked:
                self.assertEqual(shown_mend(*asked.question), asked.told)
                for thing in (asked.told, listed(asked.told), tupled(asked.told), self.bent(asked), self.bent(asked)):
                    falls, stands = asked.is_fall_slowly(thing), asked.is_mend_slowly(thing)
                    self.assertIs(is_fall(*asked.question, thing), falls)
                    self.assertIs(is_mend(*asked.question, thing), stands)
                    right["falls"] += falls
                    right["stands"] += stands
                if at % 6 == 0 and asked.told[0] == "stands":
                    protocol = with_lot(asked.protocols[0], asked.told[1])
                    its = replaced(asked.protocols, asked.name, protocol)
                    held = first_messages(asked.post, its[:1], *honest(asked.post)[:2], 0)
                    self.assertEqual(answer_for(asked.post, its, held)[0], "safe")
        self.assertGreater(min(right.values()), 200)
        self.assertLess(time.time() - begin, 60)

    def bent(self, asked):
        """What was told, with one row of it bent, left out, or otherwise."""
        word, *rest = asked.told
        chance = asked.chance
        if word == "falls":
            at = chance.randrange(len(rest[0]))
            row = list(rest[0][at])
            part = chance.randrange(3)
            row[part] = changed(chance, row[part])
            return (word, changed(chance, rest[0][:at] + [tuple(row)] + rest[0][at + 1:]))
        many, firsts, rows, ends = rest[1]
        rows = changed(chance, rows) if chance.random() < 0.7 else rows
        return (word, changed(chance, rest[0]), (many, changed(chance, firsts), rows, ends))

    def test_protocols_of_unlike_questions_by_turns(self):
        # What is made for one question is of no use for another one.
        layers, one, other = [("label", 0)], weak, mended(weak, ("add", 0, 1, ("label", 0)))
        first, second = (P, [one], "weak", layers, 1), (P, [other], "weak", layers, 1)
        fall, stand = (P, [one], "weak", [], 0), (P, [other], "weak", [], 0)
        told = [shown_mend(*question) for question in (first, second, fall, stand)]
        self.assertEqual([word[0] for word in told], ["stands", "stands", "falls", "stands"])
        for _ in range(100):
            self.assertTrue(is_mend(*first, told[0]) and is_mend(*second, told[1]) and is_fall(*fall, told[2]) and is_mend(*stand, told[3]))
            self.assertFalse(is_mend(*first, told[1]) or is_mend(*fall, told[3]) or is_fall(*stand, told[2]) or is_mend(*second, told[0]))


if __name__ == "__main__":
    unittest.main()

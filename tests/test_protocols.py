"""Protocols: [4.1], [4.2], [4.3], [4.4], [4.5]."""

import itertools
import unittest

from roadheld.errors import BadSteps, BadText, BadWords
from roadheld.protocols import Proto, dealt, protocol_text, read_protocol, with_words, words_apart
from tests.samples import G, GREET, H, HIDE, WEAK, things, weak

STEPS = "0 takes nothing puts word 1 , word 3 ; 1 takes word 3 puts word 1 , word 1 ; "
WORDY = read_protocol("protocol wordy { " + STEPS + "}")
# A text and the index at which it goes on wrongly.
WRONG = [
    ("", 0), ("  ", 2), ("protocol", 8), ("Protocol greet", 0), ("protocols greet", 0), ("protocol takes {", 9),
    ("protocol abcdefghi {", 9), ("protocol 3 {", 9), ("protocol greet 0", 15), ("protocol greet { }", 17),
    ("protocol greet { 2 takes", 17), ("protocol greet { 01 takes", 18), ("protocol greet { -1 takes", 17),
    ("protocol greet { 0 puts", 19), ("protocol greet { 0 takes puts", 25), ("protocol greet { 0 takes nothing ;", 33),
    ("protocol greet { 0 takes nothing puts ;", 38), ("protocol greet { 0 takes nothing puts nothing }", 46),
    ("protocol greet { 0 takes nothing puts nothing ;", 47), ("protocol greet { 0 takes nothing puts nothing ; ; }", 48),
    ("protocol greet { 0 takes nothing puts nothing ; } }", 50), ("protocol greet { 0 takes nothing puts nothing ; } x", 50),
    ("protocol greet { 0 takes nothing puts cipher 2 ; }", 45), ("protocol greet { 0 takes nothing puts cipher ann ; }", 45),
    ("protocol greet { 0 takes nothing puts word 10 ; }", 43), ("protocol greet { 0 takes nothing puts word 1 word 2 ; }", 45),
    ("protocol greet { 0 takes nothing puts word 1 , ; }", 47), ("protocol greet { 0 takes nothing puts word 1 : }", 45),
    ("protocol greet { 0 takes nothing puts nothing , word 1 ; }", 46), ("protocol greet { 0 takes nothing puts nothing ; 3", 48),
    ("protocol greet { 0 takes nothing puts nothing ; }\n", 49), ("protocol greet { 1 takes cipher Ann", 32),
    ("protocol greet { 1 takes nothing puts nothing ;", 47), ("protocol gree\u00e9 {", 13), ("protocol greet{0takes", 21),
    ("protocol greet { 0 takes nothing puts key 0 ; }", 38), ("protocol greet { 0 takes nothing puts - ; }", 38),
]


class TestProtocols(unittest.TestCase):
    def test_steps(self):
        steps = [(0, [], [("seal", 0), ("cipher", 1)]), (1, [("seal", 0), ("cipher", 1)], [("seal", 1), ("word", 9)]),
                 (0, [("label", 1)], []), (0, [], [])]
        protocol = Proto("abcdefgh", steps)
        self.assertEqual((protocol.name(), protocol.steps()), ("abcdefgh", steps))
        self.assertIsInstance(protocol.steps()[0], tuple)
        self.assertIsInstance(protocol.steps()[0][1], list)

    def test_each_step_by_its_seals_and_ciphers(self):
        for part, kind, whose in itertools.product((0, 1), ("cipher", "seal", "label"), (0, 1)):
            for puts in (False, True):
                layers = [("word", 1), (kind, whose)]
                step = (part, [], layers) if puts else (part, layers, [])
                wrong = whose != part and (kind == "seal" if puts else kind == "cipher")
                if wrong:
                    with self.assertRaises(BadSteps) as caught:
                        Proto("greet", [(0, [], []), step])
                    self.assertEqual(caught.exception.index, 1)
                else:
                    self.assertEqual(Proto("greet", [(0, [], []), step]).steps()[1], step)

    def test_first_step(self):
        for steps, index in (([(1, [], [])], 0), ([(0, [("word", 1)], [])], 0), ([(0, [], []), (2, [], [])], 1)):
            with self.assertRaises(BadSteps) as caught:
                Proto("greet", steps)
            self.assertEqual(caught.exception.index, index)

    def test_equal(self):
        self.assertEqual(G, Proto("greet", G.steps()))
        self.assertNotEqual(G, Proto("hello", G.steps()))
        self.assertNotEqual(G, Proto("greet", H.steps()))
        self.assertNotEqual(G, Proto("greet", G.steps() + [(0, [], [])]))

    def test_dealt(self):
        self.assertEqual(dealt(G.steps()[0][2], "ann", "bob"), [("label", "ann"), ("cipher", "bob")])
        layers = [("word", 0), ("word", 1), ("seal", 1), ("cipher", 0), ("label", 0)]
        self.assertEqual(dealt(layers, "zoe", "ann"),
                         [("word", 0), ("word", 1), ("seal", "ann"), ("cipher", "zoe"), ("label", "zoe")])
        self.assertEqual(dealt([], "zoe", "ann"), [])


class TestTexts(unittest.TestCase):
    def test_written_and_read(self):
        for text in (GREET, HIDE, WEAK, "protocol a { 0 takes nothing puts nothing ; }"):
            self.assertEqual(protocol_text(read_protocol(text)), text)
        self.assertEqual(G.steps(), [(0, [], [("label", 0), ("cipher", 1)]), (1, [("label", 0), ("cipher", 1)], [("cipher", 0)])])
        self.assertEqual(protocol_text(Proto("greet", [(0, [], [("cipher", 1), ("label", 0)]),
                                                       (1, [("cipher", 1), ("label", 0)], [("cipher", 0)])])),
                         "protocol greet { 0 takes nothing puts cipher 1 , label 0 ; "
                         "1 takes cipher 1 , label 0 puts cipher 0 ; }")

    def test_blanks(self):
        self.assertEqual(read_protocol("  protocol greet{0 takes nothing puts label 0,cipher 1;"
                                       "1takes label0,cipher1puts cipher   0;}  "), G)

    def test_wrong_places(self):
        for text, place in WRONG:
            with self.assertRaises(BadText, msg=text) as caught:
                read_protocol(text)
            self.assertEqual(caught.exception.place, place, text)

    def test_no_string(self):
        for thing in things():
            if not isinstance(thing, str):
                with self.assertRaises(BadText) as caught:
                    read_protocol(thing)
                self.assertEqual(caught.exception.place, 0)

    def test_whole_texts_of_wrong_steps(self):
        for text, index in (("protocol greet { 1 takes nothing puts nothing ; }", 0),
                            ("protocol greet { 0 takes word 1 puts nothing ; 1 takes cipher 0 puts nothing ; }", 0),
                            ("protocol greet { 0 takes nothing puts nothing ; 1 takes cipher 0 puts nothing ; }", 1),
                            ("protocol greet { 0 takes nothing puts seal 1 ; }", 0)):
            with self.assertRaises(BadSteps) as caught:
                read_protocol(text)
            self.assertEqual(caught.exception.index, index)
        self.assertRaises(BadText, read_protocol, "protocol greet { 1 takes nothing puts nothing ; } ;")


class TestWords(unittest.TestCase):
    def test_called_otherwise(self):
        told = with_words(WORDY, {3: 1, 1: 9})
        self.assertEqual(protocol_text(told), "protocol wordy { 0 takes nothing puts word 9 , word 1 ; "
                                              "1 takes word 1 puts word 9 , word 9 ; }")
        self.assertEqual(with_words(WORDY, {1: 1, 3: 3}), WORDY)
        self.assertEqual(with_words(weak, {}), weak)

    def test_wrong_words(self):
        for words in ({}, {1: 2}, {1: 2, 3: 2}, {1: 2, 3: 4, 5: 6}, {1: 2, 3: 10}, {1: 2, 3: -1}, {1: 2, 3: True},
                      {True: 2, 3: 4}, {1: 2, 3: "4"}, {"1": 2, 3: 4}, {1: 2, 3: None}, {1.0: 2, 3: 4}, {1: 2, 3.0: 4},
                      {1: 2, 4: 3}, [1, 3], [(1, 2), (3, 4)], {1: 2, 3: [4]}, {1: 2, None: 4}, {(1,): 2, 3: 4}):
            with self.assertRaises(BadWords) as caught:
                with_words(WORDY, words)
            self.assertIs(caught.exception.words, words)
        self.assertRaises(BadWords, with_words, weak, {1: 1})

    def test_apart(self):
        self.assertEqual(words_apart(WORDY, with_words(WORDY, {3: 1, 1: 9})), {1: 9, 3: 1})
        self.assertEqual(words_apart(weak, weak), {})
        self.assertEqual(words_apart(G, H), None)
        self.assertEqual(words_apart(G, Proto("other", G.steps())), {})
        self.assertEqual(words_apart(WORDY, weak), None)
        self.assertEqual(words_apart(weak, WORDY), None)

    def test_apart_is_just_one(self):
        puts = [[("word", number) for number in row] for row in itertools.product(range(3), repeat=3)]
        protocols = [Proto("greet", [(0, [], row[:2]), (1, row[2:], [("label", 0)])]) for row in puts]
        for protocol, other in itertools.product(protocols, repeat=2):
            numbers = sorted({whose for _, takes, layers in protocol.steps() for kind, whose in takes + layers if kind == "word"})
            found = [dict(zip(numbers, row)) for row in itertools.permutations(range(3), len(numbers))
                     if with_words(protocol, dict(zip(numbers, row))).steps() == other.steps()]
            self.assertLessEqual(len(found), 1)
            self.assertEqual(words_apart(protocol, other), found[0] if found else None)

    def test_limits(self):
        layers = [("word", number) for number in range(6)]
        protocol = Proto("greet", [(0, [], layers)] + [(1, layers, layers[::-1])] * 7)
        turned = {number: 9 - number for number in range(6)}
        self.assertEqual(words_apart(protocol, with_words(protocol, turned)), turned)
        self.assertEqual(read_protocol(protocol_text(protocol)), protocol)


if __name__ == "__main__":
    unittest.main()

"""Messages and their texts: [3.3], [3.4]."""

import unittest

from roadheld.errors import BadText
from roadheld.messages import message_text, read_message
from tests.samples import AGENTS, things

RIGHT = [
    ("cipher bob, word 3 : 7", [("cipher", "bob"), ("word", 3)], 7),
    ("label ann, cipher bob : 0", [("label", "ann"), ("cipher", "bob")], 0),
    ("nothing : -5", [], -5),
    ("nothing : 0", [], 0),
    ("seal abcdefgh, word 0 : 1000000000000", [("seal", "abcdefgh"), ("word", 0)], 10 ** 12),
]
LOOSE = [
    ("  cipher   bob,word 3:7  ", [("cipher", "bob"), ("word", 3)], 7),
    ("word3:7", [("word", 3)], 7),
    ("word9,word8:7", [("word", 9), ("word", 8)], 7),
    ("nothing:-  5", [], -5),
    ("nothing : - 5 ", [], -5),
    ("label ann ,label ann :12", [("label", "ann"), ("label", "ann")], 12),
]
WRONG = [
    ("cipher Ann : 0", 7), ("", 0), ("   ", 3), ("nothing", 7), ("nothing ", 8), ("nothing :", 9), ("nothing : ", 10),
    ("nothing : 007", 11), ("nothing : 00", 11), ("nothing : - 0", 12), ("nothing : -0", 11), ("nothing : -", 11),
    ("nothing : --5", 11), ("nothing : 5 5", 12), ("nothing : 5,", 11), ("nothing , label ann : 0", 8),
    ("nothing: 1 x", 11), ("cipher", 6), ("cipher ", 7), ("cipher cipher : 0", 7), ("cipher label : 0", 7),
    ("cipher nothing : 0", 7), ("cipher abcdefghi : 0", 7), ("cipherbob : 0", 0), ("cipher 3 : 0", 7),
    ("word bob : 0", 5), ("word 10 : 0", 5), ("word 01 : 0", 6), ("word -1 : 0", 5), ("word : 0", 5),
    ("cipher bob word 3 : 0", 11), ("cipher bob,, word 3 : 0", 11), ("cipher bob, : 0", 12), (", word 3 : 0", 0),
    (": 0", 0), ("7", 0), ("cipher bob : x", 13), ("cipher bob : 7.", 14), ("cipher bob\t: 7", 10),
    ("cipher\nbob : 7", 6), ("\u00e4", 0), ("cipher bo\u00e4 : 0", 9), ("nothing : \u0663", 10), ("nothing : 5\n", 11),
    ("cipher bob : 7 ; !", 15), ("cipher bob ! 7", 11), ("label ann, nothing : 0", 11), ("seal ann, Cipher bob : 0", 10),
    ("protocol greet : 0", 0), ("bob : 0", 0), ("nothing : 5 -", 12), ("word 3, word 4", 14), ("nothing : +5", 10),
    ("nothing:5{", 9), ("{", 0), ("nothing : " + "9" * 2000 + " 0", 2011),
]


class TestTexts(unittest.TestCase):
    def test_example(self):
        self.assertEqual(message_text(([("label", "ann"), ("cipher", "bob")], 0)), "label ann, cipher bob : 0")
        self.assertRaises(BadText, read_message, "cipher Ann : 0")

    def test_written_and_read(self):
        for text, layers, core in RIGHT:
            self.assertEqual(message_text((layers, core)), text)
            self.assertEqual(read_message(text), (layers, core))

    def test_kinds_told(self):
        told = read_message("cipher bob : 7")
        self.assertIsInstance(told, tuple)
        self.assertIsInstance(told[0], list)
        self.assertIsInstance(told[0][0], tuple)

    def test_blanks(self):
        for text, layers, core in LOOSE:
            self.assertEqual(read_message(text), (layers, core), text)

    def test_wrong_places(self):
        for text, place in WRONG:
            with self.assertRaises(BadText, msg=text) as caught:
                read_message(text)
            self.assertEqual(caught.exception.place, place, text)

    def test_no_string(self):
        for thing in things() + [b"nothing : 0", ["nothing : 0"]]:
            if isinstance(thing, str):
                continue
            with self.assertRaises(BadText) as caught:
                read_message(thing)
            self.assertEqual(caught.exception.place, 0)

    def test_each_cut_text(self):
        text = "cipher bob, word 3, seal ann : -70"
        for length in range(len(text)):
            if text[:length] == text[:-1]:
                self.assertEqual(read_message(text[:length])[1], -7)
                continue
            with self.assertRaises(BadText) as caught:
                read_message(text[:length])
            self.assertLessEqual(caught.exception.place, length)

    def test_limits(self):
        layers = [("label", agent) for agent in AGENTS[:12]]
        self.assertEqual(read_message(message_text((layers, -10 ** 12))), (layers, -10 ** 12))
        many = [("cipher", "abcdefgh")] * 111
        self.assertEqual(read_message(message_text((many, 5))), (many, 5))
        self.assertEqual(read_message("nothing : " + "9" * 2000), ([], 10 ** 2000 - 1))


if __name__ == "__main__":
    unittest.main()

"""Texts of programs: [5.7], and what [5.8] says of them."""

import re
import time
import unittest

from roadheld.errors import BadProgram, BadText
from roadheld.programs import is_program
from roadheld.programtexts import program_text, read_program
from tests import plain
from tests.samples import deep, listed, things, tupled
from tests.test_programs import EXAMPLE, SHORT, random_program

TEXT = "part 1 { open ; check label partner ; either { word 3 ; } or { word 4 ; } cipher partner ; send ; }"


def tokens_of(text):
    """The words, numbers and signs of a text, each with its place."""
    return [(found.group(), found.start()) for found in re.finditer("[a-z]+|0|[1-9][0-9]*|[^ ]", text)]


def first_wrong(text):
    """The place at which a text goes on as no text of a program does, None if it is one: what may come next is kept."""
    tokens = tokens_of(text)
    owners, digits = {"mine", "partner"}, set("0123456789")
    rows = {"open": [{";"}], "seal": [{";"}], "send": [{";"}], "cipher": [owners, {";"}], "label": [owners, {";"}], "word": [digits, {";"}]}
    left = [{"part"}, {"0", "1"}, {"{"}, "rows"]
    for token, place in tokens:
        if not left:
            return place
        due = left.pop(0)
        if due == "rows":
            if token == "}":
                continue
            left.insert(0, "rows")
            if token == "either":
                left[0:0] = [{"{"}, "rows", {"or"}, {"{"}, "rows"]
            elif token == "check":
                left[0:0] = ["checked"]
            elif token in rows:
                left[0:0] = rows[token]
            else:
                return place
        elif due == "checked":
            if token not in ("label", "seal", "word"):
                return place
            left[0:0] = rows["word" if token == "word" else "label"]
        elif token not in due:
            return place
    return len(text) if left else None


class TestTexts(unittest.TestCase):
    def test_by_hand(self):
        program = read_program(TEXT)
        self.assertEqual(program, (1, [("open",), ("check", "label", "partner"), ("either", [("word", 3)], [("word", 4)]),
                                       ("cipher", "partner"), ("send",)]))
        self.assertEqual(program_text(program), TEXT)
        self.assertEqual(program_text((0, [])), "part 0 { }")
        self.assertEqual(program_text([0, [["either", [], ()], ("seal",)]]), "part 0 { either { } or { } seal ; }")
        with self.assertRaises(BadText) as caught:
            read_program("part 1 { open check }")
        self.assertEqual(caught.exception.place, 14)

    def test_back(self):
        for chance in plain.chances(300):
            program = random_program(chance)
            text = program_text(program)
            self.assertEqual(read_program(text), program)
            self.assertEqual(program_text(listed(program)), text)
            self.assertEqual(program_text(tupled(program)), text)
            self.assertIsNone(first_wrong(text))
            tight = re.sub("(?<![a-z0-9]) | (?![a-z0-9])", "", text)
            self.assertEqual(read_program(tight), program)
            self.assertEqual(read_program("  " + text.replace(" ", "   ") + "  "), program)
        for row in SHORT:
            self.assertEqual(read_program(program_text((1, [row]))), (1, [row]))

    def check(self, text):
        due = first_wrong(text)
        if due is None:
            program = read_program(text)
            self.assertTrue(is_program(program))
            self.assertEqual(read_program(program_text(program)), program)
            return 1
        with self.assertRaises(BadText) as caught:
            read_program(text)
        self.assertEqual(caught.exception.place, due, text)
        return 0

    def test_bent(self):
        right = 0
        for text in [TEXT, "part 0 { either { either { send ; } or { } seal ; } or { check word 0 ; } label mine ; }", "part 0 { }"]:
            words = text.split(" ")
            for at in range(len(words) + 1):
                for other in ["part", "0", "1", "7", "10", "07", "{", "}", ";", "or", "either", "open", "check", "label", "seal", "word", "cipher",
                              "mine", "partner", "send", "ann", "Open", ",", ":", "-", "\n", "\t", "\u0663", "seals", "open;"]:
                    right += self.check(" ".join(words[:at] + [other] + words[at:]))
                    right += self.check(" ".join(words[:at] + [other] + words[at + 1:]))
                right += self.check(" ".join(words[:at] + words[at + 1:]))
                right += self.check(" ".join(words[:at]))
                right += self.check(" ".join(words[:at] + words[at:at + 1] + words[at:]))
            for at in range(len(text) + 1):
                right += self.check(text[:at])
                right += self.check(text[:at] + "?" + text[at:])
                right += self.check(text[:at] + text[at + 1:])
                right += self.check(text[:at] + "  " + text[at:])
        self.assertGreater(right, 100)

    def test_no_text(self):
        for thing in things() + [deep(), TEXT.encode(), [TEXT]]:
            if isinstance(thing, str):
                self.check(thing)
                continue
            with self.assertRaises(BadText) as caught:
                read_program(thing)
            self.assertEqual(caught.exception.place, 0)
        for program in [(2, []), (0, [("either", [])]), None, (1, EXAMPLE), (0, [("send", 1)])] + things():
            with self.assertRaises(BadProgram) as caught:
                program_text(program)
            self.assertIs(caught.exception.program, program)

    def test_limits(self):
        begin = time.time()
        deepest = "part 1 { " + "either { " * 15 + "send ; " + "} or { open ; } " * 15 + "}"
        self.assertEqual(program_text(read_program(deepest)), deepest)
        self.check("part 1 { " + "either { " * 45)
        self.check("part 1 { " + "either { } or { " * 200 + "?")
        self.check("part 1 { " + "word 3 ; " * 220 + "}")
        self.check("part 1 { word " + "7" * 1900 + " ; }")
        self.assertLess(time.time() - begin, 5)

    def test_told_lists(self):
        told = read_program(text=TEXT)
        told[1][2][1].clear()
        told[1].clear()
        self.assertEqual(program_text(program=read_program(TEXT)), TEXT)


if __name__ == "__main__":
    unittest.main()

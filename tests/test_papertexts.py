"""Texts of papers: [10.5], and what [10.6] says of them."""

import time
import unittest

from roadheld.growing import grown, machine_of
from roadheld.machines import is_machine
from roadheld.papertexts import paper_text, read_paper
from roadheld.refusals import BadPaperText
from tests import plain
from tests.samples import AGENTS, M, listed, things, w1, w2, w3
from tests.textlines import bent_texts, wrong_paper_line

LETTERS = [w1, w2, ("cipher", "ann"), ("seal", "bob"), ("label", "word1"[:1])]


class TestExample(unittest.TestCase):
    def test_text(self):
        text = "states 2\nfirsts 0\nends 1\n0 word 1 1\n0 word 2 0\n0 word 3 1"
        self.assertEqual(paper_text(M), text)
        self.assertEqual(read_paper(text), M)
        told = read_paper(text)
        self.assertEqual([part.__class__ for part in (told, told[1], told[2], told[2][0], told[2][0][1], told[3])],
                         [tuple, list, list, tuple, tuple, list])


class TestTexts(unittest.TestCase):
    def test_there_and_back(self):
        for chance in plain.chances(300):
            machine = plain.random_machine(chance, LETTERS, chance.randint(1, 12), chance.randint(0, 20))
            text = paper_text(machine)
            self.assertEqual(read_paper(text), machine)
            self.assertEqual(paper_text(listed(machine)), text)
            self.assertEqual(len(text.split("\n")), 3 + len(machine[2]))

    def test_edges(self):
        self.assertEqual(paper_text((1, [], [], [])), "states 1\nfirsts\nends")
        self.assertEqual(read_paper("states 1\nfirsts\nends"), (1, [], [], []))
        self.assertEqual(read_paper("states 12\nfirsts 0 2 11\nends\n11 cipher reads 0"), (12, [0, 2, 11], [(11, ("cipher", "reads"), 0)], []))
        great = "1" + "0" * 1999
        self.assertEqual(read_paper("states " + great + "\nfirsts 7\nends"), (10 ** 1999, [7], [], []))

    def due(self, text, line):
        with self.assertRaises(BadPaperText) as caught:
            read_paper(text)
        self.assertEqual(caught.exception.line, line, text)

    def test_the_first_line_with_which_none_goes_on(self):
        for text, line in (("", 0), ("states 1", 1), ("states 1\n", 1), ("states 1\nfirsts", 2), ("states 1\nfirsts\nends\n", 3),
                           ("states 0\nfirsts\nends", 0), ("states 01\nfirsts\nends", 0), ("states\nfirsts\nends", 0),
                           ("states 1 1\nfirsts\nends", 0), ("states 1\nfirsts 1\nends", 1), ("states 2\nfirsts 1 0\nends", 1),
                           ("states 2\nfirsts 1 1\nends", 1), ("states 2\nfirsts 0\nends 2", 2), ("states 2\nends\nfirsts", 1),
                           ("states 2\nfirsts 0\nends\n0 word 1 2", 3), ("states 2\nfirsts 0\nends\n0 word 10 1", 3),
                           ("states 2\nfirsts 0\nends\n0 word 1 1\n0 word 1 1", 4),
                           ("states 2\nfirsts 0\nends\n0 word 1 1\n0 word 1 0\n1 word 1 1", 4),
                           ("states 2\nfirsts 0\nends\n0 word 1 1\n0 label ann 0", 4), ("states 2\nfirsts 0\nends\n0 word 1", 3),
                           ("states 2\nfirsts 0\nends\n0 cipher label 1", 3), ("states 2\nfirsts 0\nends\n0 word 1 1 ", 3),
                           ("states -1\nfirsts\nends", 0), ("states \u0661\nfirsts\nends", 0), ("states 2\nfirsts \u00b2\nends", 1),
                           ("states 2 \nfirsts\nends", 0), ("states 2\r\nfirsts\nends", 0), ("states 2\nfirsts \nends", 1),
                           ("states 2\nfirsts\nends\u2028", 2), ("states 2\nfirsts\nends\n0 word 1 1\n\n", 4)):
            self.due(text, line)

    def test_bent(self):
        seen = {}
        for chance in plain.chances(12):
            machine = plain.random_machine(chance, LETTERS, chance.randint(1, 4), 6)
            for text in bent_texts(paper_text(machine)):
                wrong = wrong_paper_line(text.split("\n"))
                if wrong is None:
                    self.assertEqual(paper_text(read_paper(text)), text)
                else:
                    self.due(text, wrong)
                seen[wrong] = seen.get(wrong, 0) + 1
        self.assertGreater(min(seen[line] for line in (None, 0, 1, 2, 3, 4, 5)), 50)

    def test_no_strings(self):
        for thing in things() + [["states 1", "firsts", "ends"], b"states 1\nfirsts\nends"]:
            self.due(thing, 0)

    def test_four_thousand_lines(self):
        letters = [(kind, agent) for kind in ("cipher", "seal") for agent in AGENTS]
        machine = (200, [0], [(s, letter, t) for s in range(40) for letter in sorted(letters)[:10] for t in range(10)], [1])
        begin = time.time()
        text = paper_text(machine)
        self.assertEqual(len(text.split("\n")), 4003)
        self.assertEqual(read_paper(text), machine)
        self.due(text + "\n" + text.split("\n")[-1], 4003)
        self.assertLess(time.time() - begin, 5)

    def test_of_what_is_grown(self):
        for chance in plain.chances(30):
            machine = grown(plain.random_rules(chance, [w1, w2, w3], 4), machine_of([([w1, w2], 0)]))
            self.assertTrue(is_machine(read_paper(paper_text(machine))))


if __name__ == "__main__":
    unittest.main()

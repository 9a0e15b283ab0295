"""Audits: [11.4]."""

import time
import unittest

from roadheld.agents import Post
from roadheld.answers import answer_for, is_answer
from roadheld.audits import audit_text, audited
from roadheld.errors import BadProtocols
from roadheld.protocols import Proto
from roadheld.refusals import BadAnswer, BadAudit
from roadheld.rules import rules_of
from tests import plain
from tests.samples import G, H, T, deep, listed, random_question, things, w1
from tests.test_answers import FIRST, SECOND
from tests.textlines import bent_texts, wrong_audit_line

BARE = answer_for(T, [G], FIRST)
TEXT = audit_text(T, [G], FIRST, BARE)


class TestWritten(unittest.TestCase):
    def test_bare(self):
        places = {rule[2]: at for at, rule in enumerate(rules_of(T, [G]))}
        label, other, cipher, last = ("label", "ann"), ("label", "eve"), ("cipher", "bob"), ("cipher", "eve")
        book = [(((), other, (other,)), None, []), (((), last, ()), places[("take", last)], []),
                (((other,), cipher, ()), places[("answer", "greet", "bob", "eve", 1)], [1]),
                (((), cipher, ()), places[("put", other)], [0, 2]), (((), label, ()), places[("take", label)], [])]
        lines = audit_text(T, [G], FIRST, ("bare", 0, 4, book, [4, 3])).split("\n")
        self.assertEqual(lines, ["agents ann, bob, eve", "keys cipher eve, seal eve",
                                 "protocol greet { 0 takes nothing puts label 0 , cipher 1 ; "
                                 "1 takes label 0 , cipher 1 puts cipher 0 ; }", "message label ann, cipher bob : 0",
                                 "bare 0 4 4 3", "row nothing / label eve / label eve reads", "row nothing / cipher eve / nothing does 17",
                                 "row label eve / cipher bob / nothing does " + str(places[("answer", "greet", "bob", "eve", 1)]) + " 1",
                                 "row nothing / cipher bob / nothing does " + str(places[("put", other)]) + " 0 2",
                                 "row nothing / label ann / nothing does " + str(places[("take", label)]), ""])
        self.assertEqual(TEXT.split("\n")[:4], lines[:4])
        self.assertEqual(TEXT.split("\n")[4], "bare 0 4 " + " ".join(str(index) for index in BARE[4]))
        self.assertEqual((len(TEXT.split("\n")), TEXT[-1]), (6 + len(BARE[3]), "\n"))

    def test_plain(self):
        post = Post(["eve"], [("seal", "eve"), ("cipher", "eve")])
        self.assertEqual(audit_text(post, [], [([], -3)], ("bare", 0, 0, [], [])),
                         "agents eve\nkeys cipher eve, seal eve\nmessage nothing : -3\nbare 0 0\n")
        take = rules_of(post, []).index(([w1], [], ("take", w1)))
        self.assertEqual(audit_text(post, [], [([], -3), ([w1, w1], 5)], ["bare", 1, 2, ((((), w1, []), take, ()),), (0, 0)]),
                         "agents eve\nkeys cipher eve, seal eve\nmessage nothing : -3\nmessage word 1, word 1 : 5\nbare 1 2 0 0\n"
                         "row nothing / word 1 / nothing does " + str(take) + "\n")
        self.assertEqual(audit_text(post, [], [], ("safe", (2, [], [(0, ("label", "zoe"), 1)], [0, 1]))),
                         "agents eve\nkeys cipher eve, seal eve\nsafe\nstates 2\nfirsts\nends 0 1\n0 label zoe 1\n")

    def test_an_agent_called_reads(self):
        post = Post(["does", "reads"], [("cipher", "does"), ("seal", "does")])
        proto = Proto("row", [(0, [], [("cipher", 1)]), (1, [("cipher", 1), ("label", 0)], [])])
        messages = [([("cipher", "reads"), ("label", "does")], 0), ([("cipher", "reads")], 0)]
        told = answer_for(post, [proto], messages)
        text = audit_text(post, [proto], messages, told)
        self.assertEqual(told[0], "bare")
        self.assertIn("row nothing / cipher reads / cipher reads reads\n", text)
        self.assertEqual(audited(text), (post, [proto], messages, told))

    def test_refused(self):
        for thing in things() + [BARE[:4], ("bare", 0, 5, BARE[3], BARE[4]), ("safe", BARE[3]), ("bare", 0, 10 ** 6000, BARE[3], BARE[4])]:
            with self.assertRaises(BadAnswer) as caught:
                audit_text(T, [G], FIRST, thing)
            self.assertIs(caught.exception.answer, thing)
        with self.assertRaises(BadProtocols):
            audit_text(T, [G, G], None, deep())


class TestRead(unittest.TestCase):
    def due(self, text, line):
        with self.assertRaises(BadAudit) as caught:
            audited(text)
        self.assertEqual(caught.exception.line, line, text)

    def test_there_and_back(self):
        for chance in plain.chances(80):
            question = random_question(chance)
            told = answer_for(*question)
            text = audit_text(*question, listed(told))
            self.assertEqual(audited(text), question + (told,))
            self.assertIsInstance(audited(text), tuple)

    def test_papers_of_other_agents(self):
        machine = answer_for(T, [H], SECOND)[1]
        other = (machine[0] + 1, machine[1], sorted(machine[2] + [(machine[0], ("label", "zoe"), 0)]), machine[3])
        text = audit_text(T, [H], SECOND, ("safe", other))
        self.assertEqual(audited(text), (T, [H], SECOND, ("safe", other)))

    def test_lines(self):
        head = "agents ann, eve\nkeys cipher eve, seal eve\n"
        one = "protocol one { 0 takes nothing puts nothing ; }\n"
        for text, line in (("", 0), ("agents ann, eve\n", 1), ("agents ann, eve", 0), (head, 2), (head + one, 3), (head + one * 2, 3),
                           (head + "message nothing : 1\n", 3), (head + "message nothing : 1\n" + one + "safe\n", 3),
                           (head + "message label zoe : 1\nsafe\n", 2), (head + "message nothing : 01\nsafe\n", 2),
                           (head + "message nothing : -0\nsafe\n", 2), (head + "message  nothing : 1\nsafe\n", 2),
                           (head + "message nothing:1\nsafe\n", 2), (head + "safe\n", 3), (head + "safe\nstates 1\nfirsts\n", 5),
                           (head + "safe\nstates 1\nfirsts\nends", 5), (head + "safe\nstates 1\nfirsts 1\nends\n", 4),
                           (head + "safe \nstates 1\nfirsts\nends\n", 2), (head + "safe\nstates 1\nfirsts\nends\n\n", 6),
                           ("agents eve, ann\nkeys cipher eve, seal eve\nsafe\n", 0), ("agents ann, ann\nkeys\n", 0), ("agents\n", 0),
                           ("agents \n", 0), ("agents ann,eve\n", 0), ("agents Ann\n", 0), ("agents cipher\n", 0),
                           ("agents ann, eve\nkeys cipher eve\nsafe\n", 1), ("agents ann, eve\nkeys seal eve, cipher eve\nsafe\n", 1),
                           ("agents ann, eve\nkeys cipher eve, cipher eve, seal eve\nsafe\n", 1), ("agents ann, eve\nkeys nothing\n", 1),
                           ("agents ann, eve\nkeys cipher zoe, seal zoe\nsafe\n", 1), ("agents ann, eve\nkeys label eve\n", 1),
                           ("agents ann, eve\nkeys cipher eve, label eve, seal eve\nsafe\n", 1), ("agents ann, eve\nkeys\n", 1),
                           (head + "protocol one { 1 takes nothing puts nothing ; }\nsafe\n", 2),
                           (head + "protocol one {0 takes nothing puts nothing ; }\nsafe\n", 2),
                           (head + "message nothing : 1\nbare 0\n", 3), (head + "message nothing : 1\nbare 0 00\n", 3),
                           (head + "message nothing : 1\nbare 0 0", 3), (head + "message nothing : 1\nbare 0 0\nrow\n", 4),
                           (head + "message nothing : 1\nbare 0 0\nrow nothing / label zoe / nothing does 1\n", 4),
                           (head + "message nothing : 1\nbare 0 0\nrow nothing / label eve / label zoe reads\n", 4),
                           (head + "message nothing : 1\nbare 0 0\nrow label zoe / label eve / nothing reads\n", 4),
                           (head + "message nothing : 1\nbare 0 0\nrow nothing / nothing / nothing reads\n", 4),
                           (head + "message nothing : 1\nbare 0 0\nrow nothing / label eve / nothing does\n", 4),
                           (head + "message nothing : 1\nbare 0 0\nrow nothing / label eve / nothing does 01\n", 4),
                           (head + "message nothing : 1\nbare 0 0\nrow nothing/label eve / nothing does 1\n", 4),
                           (head + "message nothing : 1\nbare 0 1\n", "answer"), (head + "message nothing : 1\nbare 1 0\n", "answer"),
                           (head + "message nothing : 1\nbare 0 0 0\n", "answer"), (head + "bare 0 0\n", "answer"),
                           (head + "message nothing : 1\nsafe\nstates 1\nfirsts 0\nends 0\n", "answer"),
                           (head + "message nothing : 1\nbare 0 0\nrow nothing / label eve / nothing does 999\n", "answer"),
                           (head + "message nothing : 1\nbare 0 0\nrow nothing / label eve / nothing does 0 7\n", "answer"),
                           (head + "message nothing : 1\nbare 0 0\nrow nothing / label eve / nothing reads 0 1\n", "answer")):
            self.due(text, line)
        self.assertEqual(audited(head + "safe\nstates 1\nfirsts\nends\n")[3], ("safe", (1, [], [], [])))

    def test_bent(self):
        seen = {}
        for chance in plain.chances(14):
            question = random_question(chance)
            text = audit_text(*question, answer_for(*question))
            for at, other in enumerate(bent_texts(text)):
                if chance.random() < 0.07:
                    seen_as = self.judge(other)
                    seen[seen_as] = seen.get(seen_as, 0) + 1
        for at in range(len(TEXT)):
            self.assertIsNotNone(self.judge(TEXT[:at]))
        self.assertGreater(min(seen[kind] for kind in (0, 1, 2, 3, 4, "answer", None)), 5)

    def judge(self, text):
        """Whether a text is read as it is to be."""
        wrong = wrong_audit_line(text)
        if wrong is not None:
            self.due(text, wrong)
            return wrong
        try:
            told = audited(text)
        except BadAudit as bad:
            self.assertEqual(bad.line, "answer")
            return "answer"
        self.assertTrue(is_answer(*told))
        self.assertEqual(audit_text(*told), text)
        return None

    def test_no_strings(self):
        for thing in things() + [TEXT.encode(), [TEXT], TEXT.split("\n")]:
            self.due(thing, 0)


class TestLimits(unittest.TestCase):
    def test_long_audits(self):
        post = Post(["ann", "bob", "cid", "dan", "eve", "fay"], [("cipher", "eve"), ("seal", "eve")])
        protocols = [Proto(name, H.steps()) for name in ("one", "two", "tri", "four")]
        begin = time.time()
        messages = [([("cipher", "bob"), ("label", "ann"), ("cipher", "dan"), ("seal", "cid")] * 3, 10 ** 12)] * 8
        told = answer_for(post, protocols, messages)
        text = audit_text(post, protocols, messages, told)
        self.assertEqual(audited(text), (post, protocols, messages, told))
        machine = (300, [], [(s, ("word", n), t) for s in range(20) for n in range(10) for t in range(20)], [])
        self.assertEqual(audited(audit_text(post, protocols, [], ("safe", machine)))[3], ("safe", machine))
        self.assertLess(time.time() - begin, 10)


if __name__ == "__main__":
    unittest.main()

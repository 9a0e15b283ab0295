"""The refusals: [2.2] and the interface."""

import unittest

from roadheld import errors, refusals
from tests.samples import Odd, deep

IN_ERRORS = """BadPost(post); BadProtocol(protocol); BadProtocols(protocols); BadAgents(agents);
BadKeys(keyring); BadLayer(layer); BadMessage(message); BadText(place); BadName(name); BadSteps(index); BadLayers(layers);
BadZero(zero); BadOne(one); BadWords(words); BadOther(other); BadProgram(program); BadStep(step); BadPart(part);
BadPrograms(index); BadPlace(place); BadMessages(messages); BadLog(log); BadAgent(agent); BadPartner(partner);
BadCore(core); BadRules(index); BadRule(rule); BadBook(book); BadDrop(drop); BadDrops(drops); BadMoves(index);
BadWay(way); BadBegin(begin); BadMany(many); BadMoment(moment); BadMost(most); BadMachine(machine); BadStates(states)"""
IN_REFUSALS = """BadPaperText(line); BadAnswer(answer); BadAudit(line); BadAsked(asked); BadForm(form); BadKept(kept);
BadAdversary(adversary); BadAttack(attack); BadPaper(paper); BadLot(lot); BadLots(lots); BadPrices(prices);
BadNames(names); Crowded(many); BadMend(mend); BadCounted(counted); BadLong(long); BadOthers(index);
BadBesides(besides); BadEdit(edit); BadDesk(line)"""


def classes():
    for module, row in ((errors, IN_ERRORS), (refusals, IN_REFUSALS)):
        for text in row.replace("\n", " ").split(";"):
            name, argument = text.strip().rstrip(")").split("(")
            yield module, getattr(module, name), argument


class TestErrors(unittest.TestCase):
    def test_each_is_there_right_beneath(self):
        self.assertEqual(errors.ProtocolError.__bases__, (ValueError,))
        found = list(classes())
        self.assertEqual(len(found), 38 + 21)
        for module, kind, _ in found:
            self.assertEqual(kind.__bases__, (errors.ProtocolError,))
            self.assertEqual(kind.__module__, module.__name__)

    def test_each_keeps_the_very_object(self):
        for _, kind, argument in classes():
            for thing in (object(), [1], None, Odd(), deep(), 10 ** 5000, {"a": []}):
                self.assertIs(getattr(kind(thing), argument), thing)
                self.assertIs(getattr(kind(**{argument: thing}), argument), thing)

    def test_raised_and_caught(self):
        for _, kind, argument in classes():
            with self.assertRaises(errors.ProtocolError) as caught:
                raise kind("x")
            self.assertEqual(getattr(caught.exception, argument), "x")
            with self.assertRaises(TypeError):
                kind()


if __name__ == "__main__":
    unittest.main()

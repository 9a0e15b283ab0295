"""The interface: each name stands in its file, with its parameters' names."""

import importlib
import inspect
import re
import unittest

from roadheld.errors import ProtocolError

INTERFACE = {
    "errors": [
        "ProtocolError", "BadPost(post)", "BadProtocol(protocol)", "BadProtocols(protocols)", "BadAgents(agents)", "BadKeys(keyring)",
        "BadLayer(layer)", "BadMessage(message)", "BadText(place)", "BadName(name)", "BadSteps(index)", "BadLayers(layers)",
        "BadZero(zero)", "BadOne(one)", "BadWords(words)", "BadOther(other)", "BadProgram(program)", "BadStep(step)", "BadPart(part)",
        "BadPrograms(index)", "BadPlace(place)", "BadMessages(messages)", "BadLog(log)", "BadAgent(agent)", "BadPartner(partner)",
        "BadCore(core)", "BadRules(index)", "BadRule(rule)", "BadBook(book)", "BadDrop(drop)", "BadDrops(drops)", "BadMoves(index)",
        "BadWay(way)", "BadBegin(begin)", "BadMany(many)", "BadMoment(moment)", "BadMost(most)", "BadMachine(machine)",
        "BadStates(states)",
    ],
    "refusals": [
        "BadPaperText(line)", "BadAnswer(answer)", "BadAudit(line)", "BadAsked(asked)", "BadForm(form)", "BadKept(kept)",
        "BadAdversary(adversary)", "BadAttack(attack)", "BadPaper(paper)", "BadLot(lot)", "BadLots(lots)", "BadPrices(prices)",
        "BadNames(names)", "Crowded(many)", "BadMend(mend)", "BadCounted(counted)", "BadLong(long)", "BadOthers(index)",
        "BadBesides(besides)", "BadEdit(edit)", "BadDesk(line)",
    ],
    "agents": [
        "class Post(agents, keyring) with agents(), keyring(), ==", "may_put(post, layer)", "may_take(post, layer)",
    ],
    "alike": [
        "least_machine(machine)", "only_of(machine, other)", "parting_layers(machine, other)", "taken_counts(machine, long)",
        "rules_parted(rules, messages, others, besides)",
    ],
    "answers": [
        "answer_for(post, protocols, messages)", "is_answer(post, protocols, messages, thing)",
        "is_more(post, protocols, messages, other)",
    ],
    "asking": [
        "ever(rules, messages, asked)", "judged_apart(rules, messages, asked, machine, pairs)", "formed(agents, form)",
    ],
    "attacks": [
        "fewest(post, protocols, messages)", "attack_of(post, protocols, messages, most)",
        "judged_attack(post, protocols, messages, thing)",
    ],
    "audits": [
        "audit_text(post, protocols, messages, thing)", "audited(text)",
    ],
    "books": [
        "is_book(rules, thing)", "counts(book)", "book_of(rules, drop)", "book_down(rules, layers)",
    ],
    "charts": [
        "chart(post, protocols, messages, keys)", "judged_chart(post, protocols, messages, keys, thing)",
    ],
    "closedlists": [
        "lacking(rules, drops)", "is_closed(rules, thing)", "shown(rules, drop)",
    ],
    "comings": [
        "fewest_moves(rules, messages, layers)", "is_attack_to(rules, messages, layers, thing)",
        "attack_to(rules, messages, layers, most)", "judged_never(rules, messages, layers, machine)", "never(rules, messages, layers)",
    ],
    "costs": [
        "cost(rules, counted, layers)", "costs(rules, counted, book)", "cheap_book(rules, counted, layers)",
    ],
    "desks": [

        "class Desk(post, protocols, messages) with post(), protocols(), messages(), edits(), edit(edit), undo(), redo(), stands(), answer(), text(), ==",
        "read_desk(text)",
    ],
    "drops": [
        "all_drops(rules)", "down(rules, layers)",
    ],
    "exchange": [
        "exchanged(post, kept, adversary, messages)", "fewer(post, kept, adversary)", "agents_in(messages)",
    ],
    "growing": [
        "grown(rules, machine)", "machine_of(messages)", "turned(rules)",
    ],
    "houses": [
        "fewest_houses(post, protocols, zero, one)", "judged_houses(post, protocols, zero, one, thing)",
    ],
    "howsoon": [
        "numbers_by(post, protocols, messages, most)",
    ],
    "keylots": [
        "with_keys(post, lot)", "least_breaking(post, protocols, messages, keys)", "greatest_standing(post, protocols, messages, keys)",
        "cheapest(post, protocols, messages, keys, prices)", "turns(post, protocols, messages, keys)",
        "used_keys(post, protocols, messages, attack)",
    ],
    "ledover": [
        "attack_over(post, protocols, messages, kept, adversary, attack)", "paper_over(post, kept, adversary, paper)",
    ],
    "listening": [
        "counted_moves(post, protocols, agents)", "answers_needed(post, protocols, messages, agents)",
        "run_messages(protocol, agent, partner, core)", "overheard(post, protocol, agent, partner)",
    ],
    "machines": [
        "is_machine(thing)", "states_behind(machine, states, layers)", "is_taken(machine, layers)", "both(machine, other)",
        "either(machine, other)", "pruned(machine)",
    ],
    "meetings": [
        "meeting(keys, lots)", "charted(ask, keys)",
    ],
    "mends": [
        "goes_on(protocol)", "mended(protocol, mend)", "mends(protocol, layers)",
    ],
    "messages": [
        "message_text(message)", "read_message(text)",
    ],
    "packing": [
        "packed(rules, layers, moves)",
    ],
    "papers": [
        "judged_paper(rules, messages, machine)", "is_paper(rules, messages, thing)",
    ],
    "papertexts": [
        "paper_text(machine)", "read_paper(text)",
    ],
    "posts": [
        "done(post, protocols, messages, deed)", "refused(post, protocols, log)", "held_by(post, protocols, log)",
        "through(post, protocols, log)",
    ],
    "prices": [
        "first_dear(rules, counted, prices)", "is_price_list(rules, counted, thing)", "least_sum(prices, layers)",
        "within(rules, counted, layers, most)",
    ],
    "programs": [
        "is_program(thing)", "steps_of(program)", "sent(program, layers)", "ran(program, zero, one, message)", "covers(step, other)",
        "sent_apart(program, other)", "program_of(part, steps)", "protocol_of(name, programs)", "reached(program, place)", "dead(program)",
    ],
    "programtexts": [
        "program_text(program)", "read_program(text)",
    ],
    "protocollots": [
        "falls(post, protocols, zero, one, names)", "least_falling(post, protocols, zero, one)",
        "greatest_lasting(post, protocols, zero, one)", "used_protocols(protocols, attack, begun)",
        "least_mixed(post, protocols, zero, one, keys)", "first_falling(post, protocols, zero, one)",
    ],
    "protocols": [
        "class Proto(name, steps) with name(), steps(), ==", "dealt(layers, zero, one)", "protocol_text(protocol)", "read_protocol(text)",
        "with_words(protocol, words)", "words_apart(protocol, other)",
    ],
    "rules": [
        "rules_of(post, protocols)", "first_messages(post, protocols, agent, partner, core)", "after(rules, layers, rule)",
        "controls(rules)",
    ],
    "runs": [
        "is_run(rules, layers, thing)", "laid_by(rules, layers, moves)", "offs(rules, layers, moves)",
    ],
    "standing": [
        "stands(post, protocols, name)", "helping(post, protocols, name, layers)", "lots_of(protocol, layers, many)",
        "least_lots(post, protocols, name, layers, most)", "shown_mend(post, protocols, name, layers, most)",
        "is_mend(post, protocols, name, layers, most, thing)", "is_fall(post, protocols, name, layers, most, thing)",
    ],
    "taken": [
        "rules_without(post, protocols, name, agent, partner)", "taken_in(post, protocols, name, part, agent, partner)",
        "attack_in(post, protocols, name, part, agent, partner, most)", "is_attack_in(post, protocols, name, part, agent, partner, thing)",
        "paper_in(post, protocols, name, part, agent, partner)", "is_paper_in(post, protocols, name, part, agent, partner, thing)",
    ],
    "tightening": [
        "loose_stretch(rules, layers, moves)", "tightened(rules, layers, moves)",
    ],
    "ways": [
        "is_way(rules, layers, thing)", "number_of(rules, layers, way)", "moves_of(rules, layers, way, begin, many)",
        "layers_at(rules, layers, way, moment)", "highest(rules, layers, way)", "way_offs(rules, layers, way)",
    ],
    "wordsapart": [
        "parted(protocols)", "attack_unparted(protocols, attack)", "paper_parted(protocols, paper)",
    ],
}


def named(text):
    """A name and its parameters."""
    name, told = re.fullmatch(r"(\w+)(?:\((.*)\))?", text).groups()
    return name, [] if not told else told.split(", ")


def parameters_of(function):
    return [name for name in inspect.signature(function).parameters if name != "self"]


class TestInterface(unittest.TestCase):
    def each(self, kind):
        for module, texts in INTERFACE.items():
            for text in texts:
                is_class = text.startswith("class ")
                if (module in ("errors", "refusals")) == (kind == "error") and is_class == (kind == "class"):
                    yield importlib.import_module("roadheld." + module), text

    def test_functions(self):
        many = 0
        for module, text in self.each("function"):
            name, told = named(text)
            function = getattr(module, name)
            self.assertTrue(inspect.isfunction(function), text)
            self.assertEqual(function.__module__, module.__name__)
            self.assertEqual(parameters_of(function), told)
            many += 1
        self.assertEqual(many, 139)

    def test_classes(self):
        for module, text in self.each("class"):
            head, methods = text[len("class "):].split(" with ")
            name, told = named(head)
            kind = getattr(module, name)
            self.assertEqual(kind.__module__, module.__name__)
            self.assertEqual(parameters_of(kind.__init__), told)
            for method in methods.split(", "):
                own, its = ("__eq__", ["other"]) if method == "==" else named(method)
                self.assertIn(own, kind.__dict__)
                self.assertEqual(parameters_of(kind.__dict__[own]), its)

    def test_errors(self):
        for module, text in self.each("error"):
            name, told = named(text)
            kind = getattr(module, name)
            self.assertEqual(kind.__module__, module.__name__)
            if name == "ProtocolError":
                self.assertEqual(kind.__bases__, (ValueError,))
                continue
            self.assertEqual(kind.__bases__, (ProtocolError,))
            self.assertEqual(parameters_of(kind.__init__), told)
            thing = object()
            self.assertIs(getattr(kind(thing), told[0]), thing)
            self.assertIs(getattr(kind(**{told[0]: thing}), told[0]), thing)


if __name__ == "__main__":
    unittest.main()

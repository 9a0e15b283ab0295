"""Attacks: moves by which a message comes bare, as few as can be."""

from roadheld.coding import coded_rules
from roadheld.deeds import all_steps, move_done
from roadheld.forms import is_below, is_number, is_pair, is_row
from roadheld.handed import checked_most, checked_question
from roadheld.rules import rules_needed
from roadheld.solving import Solver
from roadheld.tracing import Traced


def asked_rows(post, protocols, messages):
    """The layers of each of the messages of a question."""
    return [layers for layers, _ in checked_question(post, protocols, messages)]


def fewest(post, protocols, messages):
    """The least number of moves by which one of messages comes bare, and its index; None if none does."""
    rows = asked_rows(post, protocols, messages)
    coded = coded_rules(rules_needed(post, protocols, rows))
    coded_rows = [coded.code_row(row) for row in rows]
    return Solver(coded, None, coded_rows).nearest(coded_rows)


def attack_of(post, protocols, messages, most):
    """An attack of the fewest moves, or how many there are if they are more than most; None if there is none."""
    rows = asked_rows(post, protocols, messages)
    checked_most(most)
    rules = rules_needed(post, protocols, rows)
    coded = coded_rules(rules)
    coded_rows = [coded.code_row(row) for row in rows]
    traced = Traced(coded, None, coded_rows)
    best = traced.solver.nearest(coded_rows)
    if best is None:
        return None
    number, index = best
    if number > most:
        return ("long", number)
    return (index, [rules[rule][2] for rule in traced.moves_of(traced.drops_down(coded_rows[index]))])


def judged_attack(post, protocols, messages, thing):
    """What is wrong with any object as an attack, None if nothing is."""
    rows = asked_rows(post, protocols, messages)
    if not is_pair(thing) or not is_number(thing[0]) or not is_row(thing[1]):
        return ("form",)
    if not is_below(thing[0], len(rows)):
        return ("index",)
    table = all_steps(protocols)
    layers = rows[thing[0]]
    for at, move in enumerate(thing[1]):
        word, told = move_done(post, table, (layers, 0), move)
        if word == "refused":
            return ("move", at, told)
        layers = told[0]
    return ("left", layers) if layers else None

"""Whether layers ever come of messages: the fewest moves, or a machine by which they never do."""

from roadheld.forms import begins_with, is_below, is_pair, is_row
from roadheld.growth import grow_rows
from roadheld.handed import checked_layers, checked_messages, checked_most, checked_row, checked_rows, checked_rules
from roadheld.handed import coded_of
from roadheld.machines import checked_machine, machine_takes
from roadheld.papers import judged_rows
from roadheld.solving import Solver
from roadheld.tracing import Traced
from roadheld.walks import goings_of, led_once


def ask(coded, rows, asked):
    """Has a rule more take just the layers that are asked about, in numbers; tells rows with what it takes beneath.

    What lies beneath all layers is none of them, so no other rule takes it.
    """
    bottom = coded.one_more()
    coded.rest.append((-1, asked + [bottom], []))
    return [row + [bottom] for row in rows]


def fewest_moves(rules, messages, layers):
    """The least number of moves by which layers come of the layers of one of messages, None if they never come.

    They come of a message just if it comes bare by the same moves and one more, the rule that asks.
    """
    coded = coded_of(rules)
    rows = checked_rows(coded, messages)
    number = Solver(coded, None, ask(coded, rows, checked_row(coded, layers))).least_number()
    return None if number is None else number - 1


def is_attack_to(rules, messages, layers, thing):
    """Whether any object is an attack to layers."""
    plain = checked_rules(rules)
    held = checked_messages(messages, None)
    asked = checked_layers(layers)
    if not is_pair(thing) or not is_below(thing[0], len(held)) or not is_row(thing[1]):
        return False
    row = held[thing[0]][0]
    for rule in thing[1]:
        if not is_below(rule, len(plain)) or not begins_with(row, plain[rule][0]):
            return False
        row = plain[rule][1] + row[len(plain[rule][0]):]
    return row == asked


def attack_to(rules, messages, layers, most):
    """An attack to layers of the least number of moves, None if there is none of at most so many."""
    coded = coded_of(rules)
    rows = checked_rows(coded, messages)
    asked = checked_row(coded, layers)
    checked_most(most)
    rows = ask(coded, rows, asked)
    traced = Traced(coded, None, rows)
    best = traced.solver.nearest(rows)
    if best is None or best[0] - 1 > most:
        return None
    # The rule that asks is done last, and once: what lies beneath all layers goes off by it alone.
    return (best[1], traced.moves_of(traced.drops_down(rows[best[1]]))[:-1])


def judged_never(rules, messages, layers, machine):
    """What is wrong with a machine that is to take all that comes of messages, and not layers; None if nothing is."""
    plain = checked_rules(rules)
    held = checked_messages(messages, None)
    asked = checked_layers(layers)
    mine = checked_machine(machine)
    wrong = judged_rows(plain, held, mine)
    if wrong is not None:
        return wrong
    reached = led_once(mine[2], {state: True for state in mine[1]}, asked)
    taken = [state for state in mine[3] if state in reached]
    return ("taken", taken[0]) if taken else None


def never(rules, messages, layers):
    """A machine by which layers never come of messages, None if they come."""
    coded = coded_of(rules)
    held = checked_messages(messages, None)
    asked = checked_layers(layers)
    machine = grow_rows(coded, held)
    return None if machine_takes(machine, goings_of(machine[2]), asked) else machine

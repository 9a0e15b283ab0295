"""Whether layers ever come of messages: the fewest moves, or a machine by which they never do."""

from roadheld.forms import begins_with, is_below, is_pair, is_row
from roadheld.growth import grow, machine_of_rows
from roadheld.handed import checked_layers, checked_messages, checked_most, checked_rules
from roadheld.machines import checked_machine, machine_takes
from roadheld.papers import judged_rows
from roadheld.solving import Solver
from roadheld.tracing import Traced
from roadheld.walks import goings_of, led

# What lies beneath all layers; it is no layer, so no rule but the one of asked_rule takes it.
BOTTOM = ("bottom", 0)


def asked_rule(layers):
    """The rule by which just these layers, with nothing beneath them, go off."""
    return (layers + [BOTTOM], [], None)


def rows_to(messages):
    """The layers of messages, each with what lies beneath all layers."""
    return [row + [BOTTOM] for row, _ in messages]


def fewest_moves(rules, messages, layers):
    """The least number of moves by which layers come of the layers of one of messages, None if they never come.

    They come of a message just if it comes bare by the same moves and one more, the rule that asks.
    """
    plain = checked_rules(rules)
    rows = rows_to(checked_messages(messages, None))
    number = Solver(plain + [asked_rule(checked_layers(layers))], None, rows).least_number()
    return None if number is None else number - 1


def is_attack_to(rules, messages, layers, thing):
    """Whether any object is an attack to layers."""
    plain = checked_rules(rules)
    held = checked_messages(messages, None)
    asked = checked_layers(layers)
    if not is_pair(thing) or not is_below(thing[0], len(held)) or not is_row(thing[1]):
        return False
    row = held[thing[0]][0]
    for rule in thing[1]:
        if not is_below(rule, len(plain)) or not begins_with(row, plain[rule][0]):
            return False
        row = plain[rule][1] + row[len(plain[rule][0]):]
    return row == asked


def attack_to(rules, messages, layers, most):
    """An attack to layers of the least number of moves, None if there is none of at most so many."""
    plain = checked_rules(rules)
    rows = rows_to(checked_messages(messages, None))
    asked = checked_layers(layers)
    checked_most(most)
    traced = Traced(plain + [asked_rule(asked)], None, rows)
    best = traced.solver.nearest(rows)
    if best is None or best[0] - 1 > most:
        return None
    # The rule that asks is done last, and once: what lies beneath all layers goes off by it alone.
    return (best[1], traced.moves_of(traced.drops_down(rows[best[1]]))[:-1])


def judged_never(rules, messages, layers, machine):
    """What is wrong with a machine that is to take all that comes of messages, and not layers; None if nothing is."""
    plain = checked_rules(rules)
    held = checked_messages(messages, None)
    asked = checked_layers(layers)
    mine = checked_machine(machine)
    wrong = judged_rows(plain, held, mine)
    if wrong is not None:
        return wrong
    taken = [state for state in led(goings_of(mine[2]), mine[1], asked) if state in mine[3]]
    return ("taken", taken[0]) if taken else None


def never(rules, messages, layers):
    """A machine by which layers never come of messages, None if they come."""
    plain = checked_rules(rules)
    held = checked_messages(messages, None)
    asked = checked_layers(layers)
    machine = grow(plain, machine_of_rows([row for row, _ in held]))
    return None if machine_takes(machine, goings_of(machine[2]), asked) else machine

"""Whether layers that an asker asks about ever come of messages."""

from roadheld.errors import BadAgents
from roadheld.forms import as_agents, as_layer, is_below, is_pair, is_row
from roadheld.growth import grow_rows
from roadheld.handed import checked_messages, checked_rules, coded_of
from roadheld.machines import checked_machine
from roadheld.pairing import Pairs
from roadheld.papers import judged_rows
from roadheld.refusals import BadAsked, BadForm
from roadheld.rules import layers_of
from roadheld.walks import are_ascending, as_machine


def checked_asked(asked):
    """A machine of what is asked about, as a plain copy."""
    plain = as_machine(asked)
    if plain is None:
        raise BadAsked(asked)
    return plain


def ever(rules, messages, asked):
    """The shortest, then first ascending, layers that are asked about and come; or why there are none."""
    coded = coded_of(rules)
    held = checked_messages(messages, None)
    its = checked_asked(asked)
    machine = grow_rows(coded, held)
    pairs = Pairs(machine, its)
    levels = pairs.levels()
    if levels[-1]:
        return ("held", pairs.first_layers(levels))
    return ("never", machine, sorted([pair for level in levels for pair in level]))


def as_pairs(thing, many, others):
    """An ascending list of pairs of a number below many and one below others, each as a tuple; None for others."""
    if not is_row(thing):
        return None
    for pair in thing:
        if not is_pair(pair) or not is_below(pair[0], many) or not is_below(pair[1], others):
            return None
    plain = [(pair[0], pair[1]) for pair in thing]
    return plain if are_ascending(plain) else None


def judged_pairs(machine, asked, thing):
    """What is wrong with any object as pairs that part a plain machine from what is asked; None if nothing is."""
    plain = as_pairs(thing, machine[0], asked[0])
    if plain is None:
        return ("form",)
    listed = {pair: True for pair in plain}
    pairs = Pairs(machine, asked)
    for pair in pairs.firsts:
        if pair not in listed:
            return ("first", pair)
    for pair in plain:
        for layer, others in pairs.ways_from(pair):
            for other in others:
                if other not in listed:
                    return ("row", pair, layer, other)
    for pair in plain:
        if pairs.is_end(pair):
            return ("end", pair)
    return None


def judged_apart(rules, messages, asked, machine, pairs):
    """What is wrong with a machine and pairs that are to show that nothing asked about comes; None if nothing is."""
    plain = checked_rules(rules)
    held = checked_messages(messages, None)
    its = checked_asked(asked)
    mine = checked_machine(machine)
    wrong = judged_rows(plain, held, mine)
    return judged_pairs(mine, its, pairs) if wrong is None else wrong


def checked_form(form):
    """A form, each of its layers as a tuple."""
    if not is_row(form):
        raise BadForm(form)
    plain = []
    for thing in form:
        part = thing if isinstance(thing, str) and thing in ("any", "more") else as_layer(thing, None)
        if part is None:
            raise BadForm(form)
        plain.append(part)
    return plain


def formed(agents, form):
    """A machine that takes just the lists of layers that are of a form."""
    names = as_agents(agents)
    if names is None:
        raise BadAgents(agents)
    layers = layers_of(names)
    state = 0
    rows = {}
    for part in checked_form(form):
        if part == "more":
            rows.update({(state, layer, state): True for layer in layers})
        else:
            meant = layers if part == "any" else [part]
            rows.update({(state, layer, state + 1): True for layer in meant})
            state += 1
    return (state + 1, [0], sorted(rows), [state])

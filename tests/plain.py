"""Plain trying: what the document says, told slowly, to hold the program against."""

import itertools
import random


def random_layers(chance, letters, least, most):
    return [chance.choice(letters) for _ in range(chance.randint(least, most))]


def random_rules(chance, letters, many, takes=(0, 2), puts=(0, 2)):
    return [(random_layers(chance, letters, *takes), random_layers(chance, letters, *puts), at) for at in range(many)]


def random_machine(chance, letters, many, rows):
    states = range(many)
    table = {(chance.choice(states), chance.choice(letters), chance.choice(states)) for _ in range(rows)}
    firsts = {chance.choice(states) for _ in range(chance.randint(0, 2))}
    ends = {chance.choice(states) for _ in range(chance.randint(0, 2))}
    return (many, sorted(firsts), sorted(table), sorted(ends))


def beginnings(rules):
    return {()} | {tuple(takes[:length]) for takes, _, _ in rules for length in range(len(takes))}


def through(numbers, control, layers):
    """The least sums of numbers of drops through layers, by the controls at which they end."""
    ways = {control: 0}
    for layer in layers:
        further = {}
        for (c, a, q), number in numbers.items():
            if c in ways and a == layer:
                further[q] = min(further.get(q, ways[c] + number), ways[c] + number)
        ways = further
    return ways


def drops_by_trying(rules):
    """All drops and their numbers, as [8.1] says, made less and less until nothing changes."""
    known = beginnings(rules)
    letters = {layer for takes, _, _ in rules for layer in takes}
    numbers = {}
    while True:
        found = {}
        for c, a in itertools.product(known, letters):
            if c + (a,) in known:
                found[(c, a, c + (a,))] = 0
            for takes, puts, _ in rules:
                if tuple(takes) == c + (a,):
                    ways = through(numbers, (), puts)
                elif not takes and c == ():
                    ways = through(numbers, (), list(puts) + [a])
                else:
                    continue
                for q, number in ways.items():
                    found[(c, a, q)] = min(found.get((c, a, q), number + 1), number + 1)
        if found == numbers:
            return numbers
        numbers = found


def nearest(rules, rows, most_moves, longest):
    """The least numbers of moves by which each row of layers comes of some, as far as rows are not too long."""
    told = {}
    edge = [tuple(row) for row in rows]
    for number in range(most_moves + 1):
        edge = [row for row in dict.fromkeys(edge) if row not in told and len(row) <= longest]
        for row in edge:
            told[row] = number
        edge = [tuple(puts) + row[len(takes):] for row in edge for takes, puts, _ in rules
                if row[:len(takes)] == tuple(takes)]
    return told


def led(machine, states, layers):
    here = set(states)
    for layer in layers:
        here = {t for s, a, t in machine[2] if s in here and a == layer}
    return here


def is_taken(machine, layers):
    return bool(led(machine, machine[1], layers) & set(machine[3]))


def is_kept(machine, rule):
    return led(machine, machine[1], rule[0]) <= led(machine, machine[1], rule[1])


def chances(many):
    return [random.Random(seed) for seed in range(many)]


def is_way_through(book, used, layers, behind):
    """Whether the drops of used rows go through layers from nothing held back to behind."""
    control = ()
    if len(used) != len(layers):
        return False
    for index, layer in zip(used, layers):
        c, a, q = book[index][0]
        if tuple(c) != control or tuple(a) != tuple(layer):
            return False
        control = tuple(q)
    return control == tuple(behind)


def is_book(rules, book):
    """Whether rows of the right form are a book, as [8.3] says."""
    known = beginnings(rules)
    for at, ((c, a, q), rule, used) in enumerate(book):
        c, q = tuple(c), tuple(q)
        if not all(0 <= index < at for index in used):
            return False
        if rule is None:
            if used or q != c + (a,) or q not in known:
                return False
        elif not 0 <= rule < len(rules):
            return False
        elif rules[rule][0]:
            if tuple(rules[rule][0]) != c + (a,) or not is_way_through(book, used, rules[rule][1], q):
                return False
        elif c or not is_way_through(book, used, list(rules[rule][1]) + [a], q):
            return False
    return True


def counts(book):
    told = []
    for _, rule, used in book:
        told.append(0 if rule is None else 1 + sum(told[index] for index in used))
    return told


def bent(thing, others):
    """Everything that comes of nested lists and tuples if one place is otherwise, away, or twice."""
    if isinstance(thing, (list, tuple)):
        kind = thing.__class__
        for at, part in enumerate(thing):
            yield kind(list(thing[:at]) + list(thing[at + 1:]))
            yield kind(list(thing[:at]) + [part] + list(thing[at:]))
            for other in bent(part, others):
                yield kind(list(thing[:at]) + [other] + list(thing[at + 1:]))
        for other in others:
            yield kind(list(thing) + [other])
        if len(thing) > 1:
            yield kind(list(thing[1:]) + list(thing[:1]))
    else:
        for other in others:
            if not (other.__class__ is thing.__class__ and other == thing):
                yield other


def comings(rules, rows, longest, most_moves=8):
    """All layers that come of rows by few moves, with the fewest."""
    return nearest(rules, rows, most_moves, longest)

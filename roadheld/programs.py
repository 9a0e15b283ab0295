"""Little programs, by which agents make messages of messages: what they send, their steps, and their dead rows."""

from roadheld.errors import BadLayers, BadMessage, BadName, BadOne, BadOther, BadPart, BadPlace, BadProgram
from roadheld.errors import BadPrograms, BadStep, BadSteps, BadZero
from roadheld.forms import as_message, as_part_layers, as_step, is_agent, is_number, is_part, is_row
from roadheld.pathways import Pathways, is_covered, places_of, ways_of
from roadheld.programforms import as_program, row_putting, row_taking
from roadheld.protocols import Proto, deal


def is_program(thing):
    """Whether any object is a program."""
    return as_program(thing) is not None


def checked_program(program):
    """A program, if it is one, as a plain copy."""
    plain = as_program(program)
    if plain is None:
        raise BadProgram(program)
    return plain


def told_steps(part, ways):
    """What is taken and put, as steps of a part."""
    return [(part, list(taken), list(laid)) for taken, laid in ways]


def steps_of(program):
    """The steps that do what a program does, none of which another one covers."""
    plain = checked_program(program)
    return told_steps(plain[0], ways_of(plain))


def sent_on(ways, layers):
    """The unlike lists that steps which take and put so make of plain layers, ascending."""
    row = tuple(layers)
    made = {laid + row[len(taken):]: True for taken, laid in ways if row[:len(taken)] == taken}
    return [list(told) for told in sorted(made)]


def sent(program, layers):
    """The lists of layers that a program can send of layers, ascending."""
    plain = checked_program(program)
    row = as_part_layers(layers)
    if row is None:
        raise BadLayers(layers)
    return sent_on(ways_of(plain), row)


def ran(program, zero, one, message):
    """The messages that a program, its parts dealt to two agents, can send of a message."""
    plain = checked_program(program)
    if not is_agent(zero):
        raise BadZero(zero)
    if not is_agent(one) or one == zero:
        raise BadOne(one)
    held = as_message(message, None)
    if held is None:
        raise BadMessage(message)
    dealt_ways = [(tuple(deal(taken, zero, one)), tuple(deal(laid, zero, one))) for taken, laid in ways_of(plain)]
    return [(layers, held[1]) for layers in sent_on(dealt_ways, held[0])]


def covers(step, other):
    """Whether a step does whatever another one of its part does."""
    plain = as_step(step)
    if plain is None:
        raise BadStep(step)
    its = as_step(other)
    if its is None or its[0] != plain[0]:
        raise BadOther(other)
    return is_covered(plain[1], plain[2], its[1], its[2])


def sent_apart(program, other):
    """The least list of the shortest ones on which programs do not send the same, and what just one sends there."""
    plain = checked_program(program)
    its = as_program(other)
    if its is None or its[0] != plain[0]:
        raise BadOther(other)
    mine = ways_of(plain)
    others = ways_of(its)
    # Where they are parted by what they do on longer lists, too, they are parted by what is taken of these.
    lists = sorted([(len(taken), taken) for taken, _ in mine + others])
    for _, taken in lists:
        made = sent_on(mine, taken)
        its_made = sent_on(others, taken)
        alone = [puts for puts in made if puts not in its_made] + [puts for puts in its_made if puts not in made]
        if alone:
            return (list(taken), min(alone))
    return None


def rows_of_step(part, step):
    """The rows that do a plain step of a part, and send."""
    _, takes, puts = step
    rows = [row_taking(part, layer) for layer in takes]
    rows.extend([row_putting(part, layer) for layer in puts[::-1]])
    return rows + [("send",)]


def rows_of_steps(part, steps):
    """The rows that do one of some plain steps, parted in the middle, so that they lie not deep within one another."""
    if len(steps) == 1:
        return rows_of_step(part, steps[0])
    half = len(steps) // 2
    return [("either", rows_of_steps(part, steps[:half]), rows_of_steps(part, steps[half:]))]


def program_of(part, steps):
    """A program with just some steps of a part."""
    if not is_part(part):
        raise BadPart(part)
    if not is_row(steps) or len(steps) == 0:
        raise BadSteps(0)
    plain = []
    for index, thing in enumerate(steps):
        step = as_step(thing)
        if step is None or step[0] != part:
            raise BadSteps(index)
        plain.append(step)
    return (part, rows_of_steps(part, plain))


def checked_steps_of(programs):
    """The steps of programs of a protocol, one program behind another."""
    if not is_row(programs) or len(programs) == 0:
        raise BadPrograms(0)
    steps = []
    for index, thing in enumerate(programs):
        plain = as_program(thing)
        ways = [] if plain is None else ways_of(plain)
        if not ways:
            raise BadPrograms(index)
        if index == 0 and (plain[0] != 0 or len(ways) > 1 or ways[0][0]):
            raise BadPrograms(0)
        steps.extend(told_steps(plain[0], ways))
    return steps


def protocol_of(name, programs):
    """The protocol whose steps are those of programs, one program behind another."""
    if not is_agent(name):
        raise BadName(name)
    return Proto(name, checked_steps_of(programs))


def as_place(thing):
    """A list of numbers as a tuple; None for anything else."""
    if not is_row(thing) or not all([is_number(number) for number in thing]):
        return None
    return tuple(thing)


def reached(program, place):
    """The least of the shortest lists on which the row of a place can be done; None if it never is."""
    part, rows = checked_program(program)
    plain = as_place(place)
    if plain is None or plain not in places_of(rows, ()):
        raise BadPlace(place)
    least = Pathways(part, rows).least
    return list(least[plain]) if plain in least else None


def dead(program):
    """The places of the rows that are never done, ascending."""
    part, rows = checked_program(program)
    least = Pathways(part, rows).least
    return sorted([place for place in places_of(rows, ()) if place not in least])

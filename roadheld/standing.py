"""Whether protocols stand among others, and mends with which they do: shown by a paper, or by books for all lots."""

from roadheld.bookrows import are_right_rows, as_indexes, as_known_book, go_through, written
from roadheld.errors import BadMany
from roadheld.forms import is_number, is_row
from roadheld.growth import grow_rows
from roadheld.handed import checked_most
from roadheld.mending import mended_ways
from roadheld.mends import checked_part_layers
from roadheld.papers import is_ruled_paper
from roadheld.protocols import checked_protocol
from roadheld.trials import Trial, as_lot, counting_lots, is_lot_of, next_lots
from roadheld.walks import as_machine


def stands(post, protocols, name):
    """Whether no message that a begin of a protocol by honest agents makes ever comes bare."""
    trial = Trial(post, protocols, name)
    return trial.stands(trial.steps)


def helping(post, protocols, name, layers):
    """The mends of a protocol with which it stands."""
    trial = Trial(post, protocols, name)
    plain = checked_part_layers(layers)
    return [mend for mend, made in mended_ways(trial.steps, plain) if trial.stands(made)]


def lots_of(protocol, layers, many):
    """The lots of at most many mends that count, by how many mends they have, then ascending."""
    steps = checked_protocol(protocol).plain_steps()
    plain = checked_part_layers(layers)
    if not is_number(many):
        raise BadMany(many)
    return [lot for lot, _ in counting_lots(steps, plain, many)]


def least_standing(trial, layers, most):
    """The lots that count of the fewest mends, up to most, with which a protocol stands."""
    seen = {trial.steps: True}
    lots = [([], trial.steps)]
    while True:
        found = [lot for lot, made in lots if trial.stands(made)]
        if found or most == 0 or not lots:
            return found
        lots = next_lots(lots, seen, layers)
        most -= 1


def checked_trial(post, protocols, name, layers, most):
    """A protocol to be tried, and the layers with which it may be mended."""
    trial = Trial(post, protocols, name)
    plain = checked_part_layers(layers)
    checked_most(most)
    return (trial, plain)


def least_lots(post, protocols, name, layers, most):
    """The lots of the fewest mends, up to most, with which a protocol stands."""
    trial, plain = checked_trial(post, protocols, name, layers, most)
    return least_standing(trial, plain, most)


def paper_with(trial, steps):
    """A paper of a begin by the first two honest agents, the protocol having some steps."""
    return grow_rows(trial.posted().coded_with(trial.among(steps)), [(trial.begun(steps), 0)])


def book_with(trial, steps, solved):
    """A book by which a begin by the first two honest agents comes bare, and its rows through the begin's layers.

    What was solved of few agents is of use where there are no others.
    """
    traced, row = solved if trial.has_few() else trial.traced_for(trial.posted(), steps)
    return written(traced, traced.drops_down(row))


def first_standing(trial, layers, most):
    """The first lot that counts, of at most most mends, with which a protocol stands, with the steps it makes, or None.

    Told are also the lots ahead of it, with the steps they make, and what was solved of each.
    """
    seen = {trial.steps: True}
    lots = [([], trial.steps)]
    fallen = []
    while True:
        for lot, made in lots:
            solved = trial.traced_for(trial.posted_few(), made)
            if solved[0].solver.least_number() is None:
                return ((lot, made), fallen)
            fallen.append((lot, made, solved))
        if most == 0 or not lots:
            return (None, fallen)
        lots = next_lots(lots, seen, layers)
        most -= 1


def shown_mend(post, protocols, name, layers, most):
    """The first of the least lots with which a protocol stands, and a paper; or books for all lots."""
    trial, plain = checked_trial(post, protocols, name, layers, most)
    if trial.pair is None:
        return ("stands", [], None)
    found, fallen = first_standing(trial, plain, most)
    if found is not None:
        lot, made = found
        return ("stands", lot, paper_with(trial, made))
    rows = []
    for lot, made, solved in fallen:
        book, used = book_with(trial, made, solved)
        rows.append((lot, book, used))
    return ("falls", rows)


def is_right_paper(trial, steps, thing):
    """Whether any object is a paper of a begin by the first two honest agents, None where there are no two."""
    if trial.pair is None:
        return thing is None
    machine = as_machine(thing)
    if machine is None:
        return False
    return is_ruled_paper(trial.ruled_with(steps), [(trial.begun(steps), 0)], machine)


def made_by(steps, layers, lot):
    """The steps that a plain lot makes of plain steps if it is one that counts; None if it is none."""
    seen = {steps: True}
    lots = [([], steps)]
    for many in range(len(lot)):
        lots = next_lots(lots, seen, layers)
        # If a lot counts each beginning of it does.
        if lot[:many + 1] not in [its for its, _ in lots]:
            return None
    return [made for its, made in lots if its == lot][0]


def is_mend(post, protocols, name, layers, most, thing):
    """Whether any object tells of a lot that counts with which a protocol stands, with its paper."""
    trial, plain = checked_trial(post, protocols, name, layers, most)
    if not is_row(thing) or len(thing) != 3 or not isinstance(thing[0], str) or thing[0] != "stands":
        return False
    lot = as_lot(trial.steps, thing[1])
    made = None if lot is None or len(lot) > most else made_by(trial.steps, plain, lot)
    return made is not None and is_right_paper(trial, made, thing[2])


def is_right_book(trial, steps, known, thing, last):
    """Whether any objects are a book, and its rows by which a begin by the first two honest agents comes bare.

    Agents that are known need not be looked at.
    """
    book = as_known_book(thing, known)
    used = None if book is None else as_indexes(last, len(book))
    if used is None or not go_through(book, used, trial.begun(steps), ()):
        return False
    return are_right_rows(trial.ruled_with(steps), book)


def is_fall(post, protocols, name, layers, most, thing):
    """Whether any object tells of each lot that counts a book by which a protocol falls with it."""
    trial, plain = checked_trial(post, protocols, name, layers, most)
    if not is_row(thing) or len(thing) != 2 or not isinstance(thing[0], str) or thing[0] != "falls":
        return False
    if trial.pair is None or not is_row(thing[1]):
        return False
    lots = counting_lots(trial.steps, plain, most)
    if len(lots) != len(thing[1]):
        return False
    known = {agent: True for agent in post.agents()}
    for row, (lot, made) in zip(thing[1], lots):
        if not is_row(row) or len(row) != 3 or not is_lot_of(row[0], lot):
            return False
        if not is_right_book(trial, made, known, row[1], row[2]):
            return False
    return True

"""Papers: machines by which anybody sees that no message ever comes bare."""

from roadheld.handed import checked_messages, checked_rules
from roadheld.machines import checked_machine, machine_takes
from roadheld.walks import as_machine, goings_of, led


def judged_rows(rules, messages, machine):
    """The first plain message that a plain machine does not take, else the first plain rule that it does not keep."""
    goings = goings_of(machine[2])
    for index, message in enumerate(messages):
        if not machine_takes(machine, goings, message[0]):
            return ("message", index)
    for index, rule in enumerate(rules):
        kept = {state: True for state in led(goings, machine[1], rule[1])}
        for state in led(goings, machine[1], rule[0]):
            if state not in kept:
                return ("rule", index, state)
    return None


def judged_plain(rules, messages, machine):
    """What is wrong with a plain machine as a paper, None if nothing is."""
    wrong = judged_rows(rules, messages, machine)
    if wrong is not None:
        return wrong
    ends = {state: True for state in machine[3]}
    bare = [state for state in machine[1] if state in ends]
    return ("bare", bare[0]) if bare else None


def judged_paper(rules, messages, machine):
    """What is wrong with a machine as a paper, None if nothing is."""
    return judged_plain(checked_rules(rules), checked_messages(messages, None), checked_machine(machine))


def is_paper(rules, messages, thing):
    """Whether any object is a paper."""
    plain = checked_rules(rules)
    rows = checked_messages(messages, None)
    machine = as_machine(thing)
    return machine is not None and judged_plain(plain, rows, machine) is None

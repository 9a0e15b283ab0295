"""Papers: machines by which anybody sees that no message ever comes bare."""

from roadheld.handed import checked_messages, checked_rules
from roadheld.machines import checked_machine, machine_takes
from roadheld.walks import as_machine, goings_of, led


def first_unkept(goings, firsts, rule):
    """The least state to which what a plain rule takes leads, and what it puts does not; None if there is none."""
    reached = led(goings, firsts, rule[0])
    if not reached:
        return None
    kept = led(goings, firsts, rule[1])
    left = [state for state in reached if state not in kept]
    return min(left) if left else None


def judged_rows(rules, messages, machine):
    """The first plain message that a plain machine does not take, else the first plain rule that it does not keep."""
    goings = goings_of(machine[2])
    for index, message in enumerate(messages):
        if not machine_takes(machine, goings, message[0]):
            return ("message", index)
    firsts = {state: True for state in machine[1]}
    for index, rule in enumerate(rules):
        state = first_unkept(goings, firsts, rule)
        if state is not None:
            return ("rule", index, state)
    return None


def keeps_all_puts(goings, firsts, layers):
    """Whether each of layers leads from some first to each first, goings being rows by their layers."""
    for layer in layers:
        if layer not in goings:
            return not firsts
        going = goings[layer]
        reached = {other: True for state in firsts if state in going for other in going[state]}
        for state in firsts:
            if state not in reached:
                return False
    return True


def keeps_all_takes(goings, firsts, layers):
    """Whether each of layers leads from the firsts to firsts alone."""
    for layer in layers:
        for state, others in goings.get(layer, {}).items():
            if state in firsts:
                for other in others:
                    if other not in firsts:
                        return False
    return True


def is_ruled_paper(ruled, messages, machine):
    """Whether a plain machine is a paper of messages by rules that are looked up."""
    goings = goings_of(machine[2])
    for message in messages:
        if not machine_takes(machine, goings, message[0]):
            return False
    firsts = {state: True for state in machine[1]}
    if any([state in firsts for state in machine[3]]):
        return False
    if not keeps_all_puts(goings, firsts, ruled.puts) or not keeps_all_takes(goings, firsts, ruled.takes):
        return False
    for answer in ruled.every_answer():
        if first_unkept(goings, firsts, answer) is not None:
            return False
    return True


def judged_plain(rules, messages, machine):
    """What is wrong with a plain machine as a paper, None if nothing is."""
    wrong = judged_rows(rules, messages, machine)
    if wrong is not None:
        return wrong
    ends = {state: True for state in machine[3]}
    bare = [state for state in machine[1] if state in ends]
    return ("bare", bare[0]) if bare else None


def judged_paper(rules, messages, machine):
    """What is wrong with a machine as a paper, None if nothing is."""
    return judged_plain(checked_rules(rules), checked_messages(messages, None), checked_machine(machine))


def is_paper(rules, messages, thing):
    """Whether any object is a paper."""
    plain = checked_rules(rules)
    rows = checked_messages(messages, None)
    machine = as_machine(thing)
    return machine is not None and judged_plain(plain, rows, machine) is None

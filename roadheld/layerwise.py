"""By how few deeds layers come down by rules none of which takes more than one layer: then nothing is ever held back.

So a rule that takes nothing is of no use, and each layer has a number of its own.
"""

from heapq import heappop, heappush

from roadheld.solving import LAST, SHIFT


def is_layerwise(coded):
    """Whether no rule takes more than one layer."""
    for _, takes, _ in coded.rest:
        if len(takes) > 1:
            return False
    return True


def waiting_for(rules):
    """For each layer the rules that put it: lists of how many layers are left, the number so far, and what is taken."""
    waiting = {}
    for _, takes, puts in rules:
        if takes and puts:
            left = [len(puts), 1, takes[0]]
            for layer in puts:
                if layer in waiting:
                    waiting[layer].append(left)
                else:
                    waiting[layer] = [left]
    return waiting


def number_layerwise(coded, row):
    """The fewest deeds by which a row of layers comes down, None if it never does."""
    waiting = waiting_for(coded.rest)
    missing = {layer: True for layer in row}
    numbers = {}
    queue = [1 << SHIFT | layer for layer in sorted(coded.taken)]
    while queue and missing:
        entry = heappop(queue)
        layer = entry & LAST
        if layer in numbers:
            continue
        number = entry >> SHIFT
        numbers[layer] = number
        if layer in missing:
            del missing[layer]
        if layer in waiting:
            for left in waiting[layer]:
                left[0] -= 1
                left[1] += number
                if left[0] == 0:
                    heappush(queue, left[1] << SHIFT | left[2])
    return None if missing else sum([numbers[layer] for layer in row])

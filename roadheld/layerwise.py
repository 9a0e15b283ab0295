"""By how few deeds layers come down by rules none of which takes more than one layer: then nothing is ever held back.

So a rule that takes nothing is of no use, and each layer has a number of its own.
"""

from heapq import heappop, heappush

from roadheld.solving import LAST, SHIFT


def is_layerwise(coded):
    """Whether no rule takes more than one layer."""
    return all([len(takes) < 2 for _, takes, _ in coded.rest])


def number_layerwise(coded, row):
    """The fewest deeds by which a row of layers comes down, None if it never does."""
    using = {}
    left = []
    sums = []
    heads = []
    for _, takes, puts in coded.rest:
        if takes and puts:
            for layer in puts:
                if layer in using:
                    using[layer].append(len(heads))
                else:
                    using[layer] = [len(heads)]
            left.append(len(puts))
            sums.append(1)
            heads.append(takes[0])
    missing = {layer: True for layer in row}
    numbers = {}
    queue = [1 << SHIFT | layer for layer in sorted(coded.taken)]
    while queue and missing:
        entry = heappop(queue)
        layer = entry & LAST
        if layer in numbers:
            continue
        numbers[layer] = entry >> SHIFT
        if layer in missing:
            del missing[layer]
        for at in using.get(layer, ()):
            sums[at] += numbers[layer]
            left[at] -= 1
            if left[at] == 0:
                heappush(queue, sums[at] << SHIFT | heads[at])
    return None if missing else sum([numbers[layer] for layer in row])

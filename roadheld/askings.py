"""Lots that meet others, and least and greatest lots found with few askings.

A lot is an integer, its bits its parts.
"""


def are_within(lot, other):
    """Whether all keys of a lot are keys of another one."""
    return lot & other == lot


def least_of(lots):
    """Those of lots within which there is no other one; each once."""
    kept = []
    for lot in sorted({lot: True for lot in lots}):
        # What lies within a lot is no greater a number.
        if not any([are_within(other, lot) for other in kept]):
            kept.append(lot)
    return kept


def meeting_more(meetings, lot, many):
    """The least lots that meet one lot more than some least ones do."""
    told = [other for other in meetings if other & lot]
    for other in meetings:
        if not other & lot:
            told.extend([other | 1 << at for at in range(many) if lot >> at & 1])
    return least_of(told)


def first_false(asking, lots):
    """The first one of lots of which asking does not hold, None if there is none."""
    for lot in lots:
        if not asking.holds(lot):
            return lot
    return None


def filled(asking, lot, many):
    """A lot of which asking does not hold, filled up with parts of many as long as it does not."""
    for at in range(many):
        if not lot >> at & 1 and not asking.holds(lot | 1 << at):
            lot |= 1 << at
    return lot


def chart_lots(asking, many):
    """The least lots of many parts of which asking holds, and the greatest ones of which it does not.

    Each lot that meets what the greatest ones found so far leave out, and does not without any one of its parts,
    is a least one, or can be filled up to one more of the greatest.
    """
    every = (1 << many) - 1
    greatest = []
    meetings = [0]
    while True:
        lot = first_false(asking, meetings)
        if lot is None:
            return (meetings, greatest)
        greatest.append(filled(asking, lot, many))
        meetings = meeting_more(meetings, every - greatest[-1], many)

"""Lists of drops, each with a price, judged by rules: which drops lack, and which are too dear.

By rules, what a drop costs at most is known from the prices of others. A list of drops is closed just if it holds with
prices of nothing, no rules being counted.

The slot of a drop (c, a, q) is a where c is empty, else c and a behind it, as a tuple.
"""

from roadheld.forms import as_known_layer, as_known_layers


class Priced:
    """Prices of drops, by their slots and what they hold back, and which of them are wrong by plain rules."""

    def __init__(self, known):
        # Agents that need not be looked at again.
        self.known = known
        self.table = {}
        # Whether some price is more than nothing: else no drop is too dear, whatever it comes by.
        self.dear = False
        self.wrong = []

    def note_all(self, thing, priced):
        """Whether any object is a list of drops of any layers, or, if priced, of unlike ones and prices: it is noted.

        Drops are looked at here as as_known_drop does it, since this is done for each row of each list.
        """
        if not isinstance(thing, list) and not isinstance(thing, tuple):
            return False
        known = self.known
        table = self.table
        price = 0
        for row in thing:
            drop = row
            if priced:
                if not isinstance(row, tuple) and not isinstance(row, list) or len(row) != 2:
                    return False
                drop, price = row
                if not isinstance(price, int) or price is True or price is False or price < 0:
                    return False
            if not isinstance(drop, tuple) and not isinstance(drop, list) or len(drop) != 3:
                return False
            control, part, behind = drop
            slot = as_known_layer(part, known, True)
            if not isinstance(control, tuple) or control:
                control = as_known_layers(control, known, True)
            if not isinstance(behind, tuple) or behind:
                behind = as_known_layers(behind, known, True)
            if slot is None or control is None or behind is None:
                return False
            if control:
                slot = tuple(control + [slot])
            behind = tuple(behind)
            prices = table.get(slot)
            if prices is None:
                table[slot] = {behind: price}
            elif behind not in prices:
                prices[behind] = price
            elif priced:
                return False
            self.dear = self.dear or price > 0
        return True

    def sums_behind(self, sums, layer):
        """Least sums of prices, as sums_through tells them, behind a drop of a layer more."""
        table = self.table
        if not self.dear:
            return {behind: 0 for control in sums for behind in table.get(control + (layer,) if control else layer, ())}
        further = {}
        for control, ahead in sums.items():
            prices = table.get(control + (layer,) if control else layer)
            if prices is not None:
                for behind, price in prices.items():
                    price += ahead
                    if behind not in further or price < further[behind]:
                        further[behind] = price
        return further

    def sums_through(self, row):
        """For what is held back behind drops through a row of layers the least sum of their prices; None for none."""
        if not row:
            return {(): 0}
        sums = self.table.get(row[0])
        for layer in row[1:]:
            if not sums:
                return None
            sums = self.sums_behind(sums, layer)
        return sums

    def judge_reading(self, takes):
        """Judges the drops by which controls of what a rule takes are read; they cost nothing."""
        for many in range(1, len(takes)):
            control = takes[:many]
            slot = control if many > 1 else takes[0]
            prices = self.table.get(slot)
            if prices is None or prices.get(control, 1):
                self.wrong.append((slot, control))

    def note_free(self, free, puts, weight):
        """Notes what is held back behind what a rule that takes nothing puts, with the least sum by which."""
        sums = self.sums_through(puts)
        # A drop that goes on from nothing held back is no dearer than itself.
        for behind in sums if sums else ():
            price = sums[behind] + weight
            if behind and (behind not in free or price < free[behind]):
                free[behind] = price

    def judge_free(self, free):
        """Judges the drops that have to be by rules that take nothing; what these hold back comes with least sums."""
        for slot, prices in self.table.items():
            if isinstance(slot[0], str) or slot[:-1] not in free:
                continue
            known = self.table.get(slot[-1], {})
            for behind, price in prices.items():
                if behind not in known or known[behind] > price + free[slot[:-1]]:
                    self.wrong.append((slot[-1], behind))

    def judge_rules(self, rules, marked, one):
        """Judges the drops that have to be by plain rules, of which the marked ones are counted; one wrong may do."""
        table = self.table
        wrong = self.wrong
        free = {}
        for index, (takes, puts, _) in enumerate(rules):
            if len(takes) == 1:
                slot = takes[0]
            elif takes:
                slot = tuple(takes)
                self.judge_reading(slot)
            else:
                self.note_free(free, puts, 1 if index in marked else 0)
                continue
            sums = table.get(puts[0]) if len(puts) == 1 else self.sums_through(puts)
            if sums:
                prices = table.get(slot)
                if prices is None:
                    wrong.extend([(slot, behind) for behind in sums])
                elif not self.dear:
                    wrong.extend([(slot, behind) for behind in sums if behind not in prices])
                else:
                    weight = 1 if index in marked else 0
                    for behind, price in sums.items():
                        if behind not in prices or prices[behind] > price + weight:
                            wrong.append((slot, behind))
            if one and wrong:
                return
        if free:
            self.judge_free(free)

    def first_wrong(self, rules, marked):
        """The least drop that lacks or is too dear by plain rules, marked ones being counted; None if there is none."""
        self.judge_rules(rules, marked, False)
        # Those of empty controls are less than all others.
        least = [(slot, behind) for slot, behind in self.wrong if isinstance(slot[0], str)]
        if least:
            slot, behind = min(least)
            return ((), slot, behind)
        return min([(slot[:-1], slot[-1], behind) for slot, behind in self.wrong]) if self.wrong else None

    def holds(self, rules, marked):
        """Whether no drop lacks or is too dear by plain rules, marked ones being counted."""
        self.judge_rules(rules, marked, True)
        return not self.wrong

    def least_through(self, row):
        """The least sum of prices of drops through a row of layers to nothing held back; None if there are none."""
        sums = self.sums_through(row)
        return sums.get(()) if sums else None

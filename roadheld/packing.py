"""Attacks packed: the rows by which an attack goes on, each written once, however often it is gone through."""

from roadheld.errors import BadMoves
from roadheld.handed import checked_layers, checked_rules
from roadheld.running import checked_attack


class Packing:
    """The rows of the way that a run of plain rules goes, written as the run is gone through.

    Some rows are begun, one within another. Of each there is kept its drop as far as it is known, its rule, the
    layers through which it leads, the indexes of the rows that are used for these so far, and what is held back.
    """

    def __init__(self, rules, layers):
        self.rules = rules
        self.book = []
        self.places = {}
        self.begun = [[(), None, None, layers, [], ()]]

    def write(self, row):
        """The index of a row, which is written if it is not yet."""
        drop, rule, used = row
        name = (drop, -1 if rule is None else rule, tuple(used))
        if name not in self.places:
            self.places[name] = len(self.book)
            self.book.append(row)
        return self.places[name]

    def use(self, index):
        """Has the row that was begun last use a written one."""
        self.begun[-1][4].append(index)
        self.begun[-1][5] = self.book[index][0][2]

    def end_rows(self):
        """Writes the rows that are through with all of their layers."""
        while len(self.begun) > 1 and len(self.begun[-1][4]) == len(self.begun[-1][3]):
            control, layer, rule, _, used, behind = self.begun.pop()
            self.use(self.write(((control, layer, behind), rule, used)))

    def do_move(self, rule):
        """Reads the layers that a rule takes ahead of the last one, and begins the row by which the rule is done."""
        takes, puts, _ = self.rules[rule]
        for _ in takes[:-1]:
            _, _, _, layers, used, control = self.begun[-1]
            layer = layers[len(used)]
            self.use(self.write(((control, layer, control + (layer,)), None, [])))
            self.end_rows()
        _, _, _, layers, used, control = self.begun[-1]
        layer = layers[len(used)]
        further = puts if takes else puts + [layer]
        self.begun.append([control, layer, rule, further, [], ()])
        self.end_rows()

    def told_way(self):
        """The way that was gone."""
        return (self.book, self.begun[0][4])


def packed(rules, layers, moves):
    """The way whose run is an attack that leaves nothing at its end alone."""
    plain = checked_rules(rules)
    row = checked_layers(layers)
    run = checked_attack(plain, row, moves)
    many = len(row)
    for rule in run:
        if many == 0:
            raise BadMoves(len(run))
        many += len(plain[rule][1]) - len(plain[rule][0])
    packing = Packing(plain, row)
    for rule in run:
        packing.do_move(rule)
    return packing.told_way()

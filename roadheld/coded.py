"""Rules with their controls and layers numbered, and what they put as a tree of lines."""

from roadheld.rules import controls_of


class Coded:
    """Rules in numbers: controls and layers by their places among all, ascending.

    Only layers that some rule takes are numbered: no other one ever goes off.
    A line is a beginning of what some rule puts; line 0 is the empty one.
    """

    def __init__(self, rules):
        self.controls = controls_of(rules)
        self.control_numbers = {control: at for at, control in enumerate(self.controls)}
        self.layers = sorted({layer: True for takes, _, _ in rules for layer in takes})
        self.layer_numbers = {layer: at for at, layer in enumerate(self.layers)}
        self.heads = [self.head_of(takes) for takes, _, _ in rules]
        # The lines: the longer ones by their next layer, the rules that put just this, the line without its
        # last layer, and this layer.
        self.longer = [{}]
        self.putters = [[]]
        self.shorter = [0]
        self.lasts = [0]
        self.lines = [None for _ in rules]
        for index, rule in enumerate(rules):
            self.write_line(index, rule[1])

    def head_of(self, takes):
        """What is held back and what lies on top when a rule is done; None for one that takes nothing."""
        if not takes:
            return None
        return (self.control_numbers[tuple(takes[:-1])], self.layer_numbers[takes[-1]])

    def write_line(self, index, puts):
        """Writes the line of what a rule puts, if all of it can ever go off."""
        if not all([layer in self.layer_numbers for layer in puts]):
            return
        line = 0
        for layer in puts:
            line = self.line_behind(line, self.layer_numbers[layer])
        self.lines[index] = line
        self.putters[line].append(index)

    def line_behind(self, line, layer):
        """The line longer by a layer, a new one if there is none yet."""
        if layer not in self.longer[line]:
            self.longer[line][layer] = len(self.longer)
            self.longer.append({})
            self.putters.append([])
            self.shorter.append(line)
            self.lasts.append(layer)
        return self.longer[line][layer]

    def numbered(self, layers):
        """Layers in numbers, None if one of them never goes off."""
        if not all([layer in self.layer_numbers for layer in layers]):
            return None
        return [self.layer_numbers[layer] for layer in layers]

    def told_drop(self, numbers):
        """A drop of numbers as it is told."""
        control, layer, behind = numbers
        return (self.controls[control], self.layers[layer], self.controls[behind])

    def drop_in_numbers(self, drop):
        """A plain drop in numbers, None if its controls or its layer are none of the rules."""
        control, layer, behind = drop
        numbers = self.control_numbers
        if control not in numbers or behind not in numbers or layer not in self.layer_numbers:
            return None
        return (numbers[control], self.layer_numbers[layer], numbers[behind])

"""What lines of papers, audits and desks are to look like, told slowly, and texts bent in many ways."""

import re

RESERVED = ("cipher", "seal", "label", "word", "nothing", "takes", "puts", "protocol")
NUMBER = "(?:0|[1-9][0-9]*)"
OWNED = "(?:cipher|seal|label) [a-z]{1,8}"
LAYER = "(?:" + OWNED + "|word [0-9])"
LAYERS = "(?:nothing|" + LAYER + "(?:, " + LAYER + ")*)"
PART_LAYER = "(?:cipher|seal|label) [01]|word [0-9]"
PART_LAYERS = "(?:nothing|(?:" + PART_LAYER + ")(?: , (?:" + PART_LAYER + "))*)"
STEP = "[01] takes " + PART_LAYERS + " puts " + PART_LAYERS


def layers_of(text):
    """The layers of a text of the right form."""
    told = []
    for part in ([] if text == "nothing" else text.split(", ")):
        kind, whose = part.split(" ")
        told.append((kind, int(whose) if kind == "word" else whose))
    return told


def are_right(text, agents):
    """Whether the layers of a text of the right form are layers, of agents where these are handed in."""
    return all(kind == "word" or whose not in RESERVED and (agents is None or whose in agents)
               for kind, whose in layers_of(text))


def ascending(row):
    return all(one < other for one, other in zip(row, row[1:]))


def wrong_paper_line(lines):
    """The index of the first of lines that is none of a paper's text in its place; None if there is none."""
    many, last = 0, None
    for at in range(max(3, len(lines))):
        if at >= len(lines):
            return at
        line = lines[at]
        if at == 0:
            if not re.fullmatch("states [1-9][0-9]*", line):
                return 0
            many = int(line.split()[1])
        elif at < 3:
            if not re.fullmatch(("firsts", "ends")[at - 1] + "(?: " + NUMBER + ")*", line):
                return at
            states = [int(word) for word in line.split()[1:]]
            if not ascending(states) or not all(state < many for state in states):
                return at
        else:
            if not re.fullmatch(NUMBER + " " + LAYER + " " + NUMBER, line):
                return at
            words = line.split(" ")
            layer = " ".join(words[1:3])
            row = (int(words[0]), layers_of(layer)[0], int(words[3]))
            if not are_right(layer, None) or row[0] >= many or row[2] >= many or last is not None and row <= last:
                return at
            last = row
    return None


def is_step(text):
    """Whether a text of the form of a step is one."""
    part, takes, puts = re.fullmatch("([01]) takes (.*) puts (.*)", text).groups()
    other = str(1 - int(part))
    return "cipher " + other not in takes.split(" , ") and "seal " + other not in puts.split(" , ")


def is_protocol(line, names):
    """Whether a line is the text of a protocol whose name is none of names."""
    found = re.fullmatch(r"protocol ([a-z]{1,8}) \{ ((?:" + STEP + r" ; )+)\}", line)
    if not found or found.group(1) in RESERVED or found.group(1) in names:
        return False
    steps = found.group(2).split(" ; ")[:-1]
    return all(map(is_step, steps)) and steps[0].startswith("0 takes nothing ")


def is_message(text, agents):
    """Whether a text is that of a message over agents."""
    found = re.fullmatch("(" + LAYERS + ") : (?:" + NUMBER + "|-[1-9][0-9]*)", text)
    return bool(found) and are_right(found.group(1), agents)


def head_of(lines):
    """How many of lines are those of a question, as far as they are right; its agents and names, None if it is none."""
    found = re.fullmatch("agents ((?:[a-z]{1,8}, )*[a-z]{1,8})", lines[0]) if lines else None
    agents = found.group(1).split(", ") if found else None
    if agents is None or set(agents) & set(RESERVED) or not ascending(agents):
        return (0, None, [])
    found = re.fullmatch("keys ((?:(?:cipher|seal) [a-z]{1,8}, )*(?:cipher|seal) [a-z]{1,8})", lines[1]) if len(lines) > 1 else None
    keys = layers_of(found.group(1)) if found else []
    lost = [agent for agent in agents if ("cipher", agent) in keys and ("seal", agent) in keys]
    if not lost or not ascending(keys) or not all(whose in agents for _, whose in keys):
        return (1, None, [])
    at, names = 2, []
    while at < len(lines) and is_protocol(lines[at], names):
        names.append(lines[at].split(" ")[1])
        at += 1
    while at < len(lines) and lines[at].startswith("message ") and is_message(lines[at][8:], agents):
        at += 1
    return (at, agents, names)


def wrong_audit_line(text):
    """The index of the first line of a text that is none of an audit in its place; None if there is none."""
    lines = text.split("\n")
    rest = lines.pop()
    at, agents, _ = head_of(lines)
    if agents is None or at == len(lines):
        return at
    if lines[at] == "safe":
        wrong = wrong_paper_line(lines[at + 1:])
        if wrong is not None:
            return at + 1 + wrong
    else:
        if not re.fullmatch("bare " + NUMBER + " " + NUMBER + "(?: " + NUMBER + ")*", lines[at]):
            return at
        for index in range(at + 1, len(lines)):
            found = re.fullmatch("row (" + LAYERS + ") / (" + LAYER + ") / (" + LAYERS + ") (?:reads|does " + NUMBER + ")(?: " + NUMBER + ")*",
                                 lines[index])
            if not found or not all(are_right(part, agents) for part in found.groups()):
                return index
    return len(lines) if rest else None


def bent_texts(text):
    """Texts that come of one if a line is away, twice, moved, cut, otherwise."""
    lines = text.split("\n")
    for at, line in enumerate(lines):
        yield "\n".join(lines[:at] + lines[at + 1:])
        yield "\n".join(lines[:at] + [line] + lines[at:])
        yield "\n".join(lines[:at])
        yield "\n".join(lines[:at]) + "\n"
        yield "\n".join(lines[:at + 1])[:-1]
        yield "\n".join(lines[at + 1:at + 2] + lines[:at + 1] + lines[at + 2:])
        yield "\n".join(lines[:at] + lines[at + 1:] + [line])
        for other in bent_lines(line):
            yield "\n".join(lines[:at] + [other] + lines[at + 1:])


def bent_lines(line):
    """Lines that come of one if a word is away, twice, otherwise, or the blanks are."""
    words = line.split(" ")
    for at, word in enumerate(words):
        yield " ".join(words[:at] + words[at + 1:])
        yield " ".join(words[:at] + [word] + words[at:])
        yield " ".join(words[:at] + [word + " "] + words[at + 1:])
        for other in ("0", "1", "5", "07", "word", "nothing", "ann", "zoe", "Ann", "reads", "-1", "/", ",", "\u0661", "label eve"):
            yield " ".join(words[:at] + [other] + words[at + 1:])
    yield line + " "
    yield " " + line
    yield line + "\r"
    yield line + "\t"
    yield line.replace(" ", "\t", 1)
    yield line.replace(", ", ",", 1)
    yield line.replace(", ", " , ", 1)
    yield line.upper()
    yield line[:-1]

"""Lines of texts, written with one blank between all words, and read just as they are written."""

from roadheld.forms import as_layer


def is_numeral(word):
    """Whether a word is a number as it is written."""
    return word.isdigit() and word.isascii() and (word == "0" or word[0] != "0")


def numbered_line(word, numbers):
    """A line of a word and numbers."""
    return " ".join([word] + [str(number) for number in numbers])


def numbers_behind(word, line):
    """The numbers of a line of this word and numbers; None for any other line."""
    words = line.split(" ")
    if words[0] != word or not all([is_numeral(numeral) for numeral in words[1:]]):
        return None
    return [int(numeral) for numeral in words[1:]]


def layer_of_words(kind, whose, agents):
    """The layer of two words, of one of agents, or, where agents is None, of any agent; None if they are none."""
    if kind == "word":
        return as_layer((kind, int(whose)), agents) if is_numeral(whose) else None
    return as_layer((kind, whose), agents)

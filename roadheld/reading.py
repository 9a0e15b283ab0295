"""Texts, read word by word: rows of letters, numbers, and signs, with blanks between them."""

from roadheld.errors import BadText
from roadheld.forms import OWNED, is_agent


def is_letter(sign):
    """Whether a sign is one of the letters a to z."""
    return "a" <= sign <= "z"


def is_digit(sign):
    """Whether a sign is one of the digits 0 to 9."""
    return "0" <= sign <= "9"


def end_of(text, at):
    """Where the word, number or sign that begins at a place ends; a sign that begins none stands for itself."""
    sign = text[at]
    end = at + 1
    if is_letter(sign):
        while end < len(text) and is_letter(text[end]):
            end += 1
    elif is_digit(sign):
        # A number does not begin with 0: behind a 0 another one begins.
        while sign != "0" and end < len(text) and is_digit(text[end]):
            end += 1
    return end


class Reader:
    """A text that is read from its begin on, with the one word, number or sign that comes next.

    The word that comes next is empty at the end of the text. A sign that begins no word is never looked for:
    so it is refused wherever it stands, as any other word is that does not go on there.
    """

    def __init__(self, text):
        if not isinstance(text, str):
            raise BadText(0)
        self.text = text
        self.word = ""
        self.place = 0
        self.behind = 0
        self.step_on()

    def step_on(self):
        """Goes on to the next word."""
        at = self.behind
        while at < len(self.text) and self.text[at] == " ":
            at += 1
        self.place = at
        self.behind = at if at == len(self.text) else end_of(self.text, at)
        self.word = self.text[at:self.behind]

    def need(self, right):
        """Refuses the word that comes next if it is not right."""
        if not right:
            raise BadText(self.place)

    def skip(self, word):
        """Reads just this word."""
        self.need(self.word == word)
        self.step_on()

    def took(self, word):
        """Whether this word comes next; it is read if it does."""
        if self.word != word:
            return False
        self.step_on()
        return True

    def read_word(self, words):
        """Reads one of these words."""
        word = self.word
        self.need(word in words)
        self.step_on()
        return word

    def read_agent(self):
        """Reads an agent."""
        word = self.word
        self.need(is_agent(word))
        self.step_on()
        return word

    def read_number(self):
        """Reads a number, however great."""
        word = self.word
        self.need(word != "" and is_digit(word[0]))
        self.step_on()
        return int(word)

    def read_below(self, many):
        """Reads a number below many."""
        word = self.word
        self.need(word != "" and is_digit(word[0]) and int(word) < many)
        self.step_on()
        return int(word)

    def read_integer(self):
        """Reads a number, perhaps behind a minus; there is no minus ahead of 0."""
        if not self.took("-"):
            return self.read_number()
        self.need(self.word != "0")
        return -self.read_number()

    def read_layer(self, of_parts):
        """Reads a layer, of parts or of agents."""
        kind = self.read_word(OWNED + ("word",))
        if kind == "word":
            return (kind, self.read_below(10))
        return (kind, self.read_below(2) if of_parts else self.read_agent())

    def read_layers(self, of_parts):
        """Reads layers parted by commas, or nothing."""
        if self.took("nothing"):
            return []
        layers = [self.read_layer(of_parts)]
        while self.took(","):
            layers.append(self.read_layer(of_parts))
        return layers

    def is_over(self):
        """Whether nothing comes but the end of the text."""
        return self.place == len(self.text)

    def finish(self):
        """Refuses whatever comes but the end of the text."""
        self.need(self.is_over())

"""Messages, layers on a core, and their texts."""

from roadheld.errors import BadMessage
from roadheld.forms import as_message
from roadheld.reading import Reader


def layer_text(layer):
    """The text of a plain layer."""
    return layer[0] + " " + str(layer[1])


def row_text(layers):
    """The text of plain layers."""
    return ", ".join([layer_text(layer) for layer in layers]) if layers else "nothing"


def message_text(message):
    """The text of a message."""
    plain = as_message(message, None)
    if plain is None:
        raise BadMessage(message)
    layers, core = plain
    return row_text(layers) + " : " + str(core)


def read_message(text):
    """The message of such a text."""
    reader = Reader(text)
    layers = reader.read_layers(False)
    reader.skip(":")
    core = reader.read_integer()
    reader.finish()
    return (layers, core)

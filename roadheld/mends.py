"""Whether protocols go on, and mends: layers put into, or shifted within, what a step puts and the next one takes."""

from roadheld.errors import BadLayers
from roadheld.forms import are_unlike, as_part_layers, begins_with
from roadheld.mending import as_mend, mend_steps, mended_ways
from roadheld.protocols import Proto, checked_protocol
from roadheld.refusals import BadMend


def goes_on(protocol):
    """The index of the first step that can't be done on what the one ahead made; None if there is none."""
    layers = ()
    for index, (_, takes, puts) in enumerate(checked_protocol(protocol).plain_steps()):
        if not begins_with(layers, takes):
            return index
        layers = puts + layers[len(takes):]
    return None


def mended(protocol, mend):
    """What comes of a protocol by a mend."""
    steps = checked_protocol(protocol).plain_steps()
    plain = as_mend(steps, mend)
    made = None if plain is None else mend_steps(steps, plain)
    if made is None:
        raise BadMend(mend)
    return Proto(protocol.name(), made)


def checked_part_layers(layers):
    """Unlike layers of parts, each as a tuple."""
    plain = as_part_layers(layers)
    if plain is None or not are_unlike(plain):
        raise BadLayers(layers)
    return plain


def mends(protocol, layers):
    """The mends of a protocol by some layers, ascending, without those that make nothing new."""
    steps = checked_protocol(protocol).plain_steps()
    plain = checked_part_layers(layers)
    return [mend for mend, _ in mended_ways(steps, plain)]

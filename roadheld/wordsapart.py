"""Protocols with no words in common, and what is led to them and back."""

from roadheld.forms import WORDS
from roadheld.handed import checked_protocols
from roadheld.moves import as_attack
from roadheld.protocols import with_words, words_of
from roadheld.refusals import BadAttack, BadPaper, Crowded
from roadheld.walks import as_machine


def old_words(protocols):
    """For each word that protocols are to have how it is called now, protocol by protocol."""
    old = []
    for protocol in checked_protocols(protocols):
        old.extend(words_of(protocol))
    if len(old) > WORDS:
        raise Crowded(len(old))
    return old


def parted(protocols):
    """The protocols with their words called otherwise, so that no two of them have one in common."""
    old_words(protocols)
    told = []
    many = 0
    for protocol in protocols:
        words = words_of(protocol)
        told.append(with_words(protocol, {word: many + at for at, word in enumerate(words)}))
        many += len(words)
    return told


def called_before(layer, old):
    """A layer called as it was before the protocols were parted; other words stay."""
    if layer[0] == "word" and layer[1] < len(old):
        return ("word", old[layer[1]])
    return layer


def attack_unparted(protocols, attack):
    """An attack of parted protocols led back."""
    old = old_words(protocols)
    plain = as_attack(attack)
    if plain is None:
        raise BadAttack(attack)
    index, moves = plain
    led = [move if move[0] == "answer" else (move[0], called_before(move[1], old)) for move in moves]
    return (index, led)


def paper_parted(protocols, paper):
    """A paper of protocols led to the parted ones."""
    old = old_words(protocols)
    machine = as_machine(paper)
    if machine is None:
        raise BadPaper(paper)
    many, firsts, rows, ends = machine
    meant = {}
    for number in range(WORDS):
        layer = ("word", number)
        meant.setdefault(called_before(layer, old), []).append(layer)
    led = []
    for state, layer, other in rows:
        own = meant.get(layer, []) if layer[0] == "word" else [layer]
        led.extend([(state, called, other) for called in own])
    return (many, firsts, sorted(led), ends)

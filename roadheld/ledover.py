"""Attacks led over to fewer agents, and papers led over from them."""

from roadheld.attacks import judged_attack
from roadheld.deeds import all_steps, dealt_step
from roadheld.exchange import exchange_layers, standins
from roadheld.forms import OWNED
from roadheld.handed import checked_question
from roadheld.refusals import BadAttack, BadPaper
from roadheld.walks import as_machine


def undone_by_adversary(step, adversary):
    """The takes and puts by which the adversary does a step, standing in both of its parts."""
    takes, puts = dealt_step(step, adversary, adversary)
    return [("take", layer) for layer in takes] + [("put", layer) for layer in puts[::-1]]


def lead_move(table, others, adversary, move):
    """The moves, in a new list, that stand for a move when agents are exchanged."""
    if move[0] != "answer":
        return [(move[0], exchange_layers([move[1]], others)[0])]
    _, name, agent, partner, number = move
    if others[agent] != others[partner]:
        return [("answer", name, others[agent], others[partner], number)]
    return undone_by_adversary(table[name][number], adversary)


def attack_over(post, protocols, messages, kept, adversary, attack):
    """An attack led over to the agents that stay."""
    checked_question(post, protocols, messages)
    others = standins(post, kept, adversary)
    if judged_attack(post, protocols, messages, attack) is not None:
        raise BadAttack(attack)
    table = all_steps(protocols)
    moves = []
    for move in attack[1]:
        moves.extend(lead_move(table, others, adversary, move))
    return (attack[0], moves)


def paper_over(post, kept, adversary, paper):
    """A paper of the agents that stay led over to all agents."""
    others = standins(post, kept, adversary)
    machine = as_machine(paper)
    if machine is None:
        raise BadPaper(paper)
    many, firsts, rows, ends = machine
    meant = {}
    for agent, other in others.items():
        for kind in OWNED:
            meant.setdefault((kind, other), []).append((kind, agent))
    led = []
    for state, layer, other in rows:
        if layer[0] != "word" and layer not in meant:
            raise BadPaper(paper)
        led.extend([(state, own, other) for own in meant.get(layer, [layer])])
    return (many, firsts, sorted(led), ends)

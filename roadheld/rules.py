"""Rules: what goes off and what comes on by a move, and the layers that are held back on the way."""

from roadheld.deeds import are_two, dealt_step
from roadheld.errors import BadAgent, BadCore, BadPartner, BadRule
from roadheld.forms import begins_with, is_below, is_integer
from roadheld.handed import checked_layers, checked_post, checked_protocols, checked_rules


def first_messages(post, protocols, agent, partner, core):
    """The messages that begins of the protocols by agent with partner make."""
    agents = checked_post(post).agents()
    checked_protocols(protocols)
    if not isinstance(agent, str) or agent not in agents:
        raise BadAgent(agent)
    if not are_two(agents, agent, partner):
        raise BadPartner(partner)
    if not is_integer(core):
        raise BadCore(core)
    messages = []
    for protocol in protocols:
        _, puts = dealt_step(protocol.plain_steps()[0], agent, partner)
        messages.append((puts, core))
    return messages


def layers_of(agents):
    """All layers of some agents, and all words, ascending."""
    owned = [(kind, agent) for kind in ("cipher", "label", "seal") for agent in sorted(agents)]
    return owned + [("word", number) for number in range(10)]


def rules_of_adversary(layers, keys):
    """The rules of what the adversary, having some keys, may put and take of some layers."""
    rules = [([], [layer], ("put", layer)) for layer in layers if layer[0] != "seal" or layer in keys]
    rules.extend([([layer], [], ("take", layer)) for layer in layers if layer[0] != "cipher" or layer in keys])
    return rules


def is_by_adversary(takes, puts, keys):
    """Whether the adversary, having some keys, may do by one put or take what takes and puts the same."""
    if len(takes) + len(puts) != 1:
        return False
    layer = puts[0] if puts else takes[0]
    return layer[0] != ("seal" if puts else "cipher") or layer in keys


def rules_of_step(pairs, name, number, step):
    """The rules of a step that agents of some pairs do, each with its partner."""
    part, takes, puts = step
    rules = []
    for agent, partner in pairs:
        who = (agent, partner) if part == 0 else (partner, agent)
        off = [(kind, whose if kind == "word" else who[whose]) for kind, whose in takes]
        on = [(kind, whose if kind == "word" else who[whose]) for kind, whose in puts]
        rules.append((off, on, ("answer", name, agent, partner, number)))
    return rules


def rules_of_answers(agents, protocols):
    """The rules of the answers of protocols, some of which may take and put the same."""
    pairs = [(agent, partner) for agent in agents for partner in agents if agent != partner]
    rules = []
    for protocol in protocols:
        steps = protocol.plain_steps()
        lots = [rules_of_step(pairs, protocol.name(), at, steps[at]) for at in range(1, len(steps))]
        # Pair by pair, and of each pair step by step.
        for at in range(len(pairs)):
            rules.extend([lot[at] for lot in lots])
    return rules


def unlike_rules(agents, keys, answers):
    """The rules of what the adversary, having some keys of agents, may do, and of answers; of like ones the first."""
    rules = rules_of_adversary(layers_of(agents), keys)
    seen = {}
    for rule in answers:
        done = (tuple(rule[0]), tuple(rule[1]))
        if done not in seen and not is_by_adversary(rule[0], rule[1], keys):
            seen[done] = True
            rules.append(rule)
    return rules


def rules_of(post, protocols):
    """The rules of all moves; of those that take and put the same the first one."""
    agents = checked_post(post).agents()
    answers = rules_of_answers(agents, checked_protocols(protocols))
    return unlike_rules(agents, post.keyring(), answers)


def layers_needed(agents, protocols, rows):
    """The layers of some rows, and those that answers of protocols by some agents take or put."""
    needed = {layer: True for row in rows for layer in row}
    kinds = {}
    for protocol in protocols:
        for _, takes, puts in protocol.plain_steps()[1:]:
            for layer in takes + puts:
                if layer[0] == "word":
                    needed[layer] = True
                else:
                    kinds[layer[0]] = True
    needed.update({(kind, agent): True for kind in kinds for agent in agents})
    return list(needed)


def rules_needed(post, protocols, rows):
    """Rules by which rows of layers come down as soon as by all rules, where they come down at all.

    A layer that is in none of the rows, and that no answer takes or puts, is of no use: the adversary has put it on,
    and has to take it off. So its rules are left out; some of the others may take and put the same.
    """
    agents = post.agents()
    layers = layers_needed(agents, protocols, rows)
    return rules_of_adversary(layers, post.keyring()) + rules_of_answers(agents, protocols)


def after(rules, layers, rule):
    """The layers that a rule makes of layers, None if what it takes is not their top."""
    plain = checked_rules(rules)
    row = checked_layers(layers)
    if not is_below(rule, len(plain)):
        raise BadRule(rule)
    takes, puts, _ = plain[rule]
    return puts + row[len(takes):] if begins_with(row, takes) else None


def controls_of(rules):
    """The controls of plain rules, ascending."""
    found = {(): True}
    for takes, _, _ in rules:
        for length in range(1, len(takes)):
            found[tuple(takes[:length])] = True
    return sorted(found)


def controls(rules):
    """All beginnings of what some rule takes that are shorter than that, and the empty one."""
    return controls_of(checked_rules(rules))

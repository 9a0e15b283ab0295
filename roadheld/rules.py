"""Rules: what goes off and what comes on by a move, and the layers that are held back on the way."""

from roadheld.deeds import are_two, dealt_step
from roadheld.errors import BadAgent, BadCore, BadPartner, BadRule
from roadheld.forms import begins_with, is_below, is_integer
from roadheld.handed import checked_layers, checked_post, checked_protocols, checked_rules


def first_messages(post, protocols, agent, partner, core):
    """The messages that begins of the protocols by agent with partner make."""
    agents = checked_post(post).agents()
    checked_protocols(protocols)
    if not isinstance(agent, str) or agent not in agents:
        raise BadAgent(agent)
    if not are_two(agents, agent, partner):
        raise BadPartner(partner)
    if not is_integer(core):
        raise BadCore(core)
    messages = []
    for protocol in protocols:
        _, puts = dealt_step(protocol.steps()[0], agent, partner)
        messages.append((puts, core))
    return messages


def layers_of(agents):
    """All layers of some agents, and all words, ascending."""
    owned = [(kind, agent) for kind in ("cipher", "label", "seal") for agent in sorted(agents)]
    return owned + [("word", number) for number in range(10)]


def rules_of_adversary(post):
    """The rules of what the adversary may put, and of what it may take."""
    keys = post.keyring()
    layers = layers_of(post.agents())
    puts = [([], [layer], ("put", layer)) for layer in layers if layer[0] != "seal" or layer in keys]
    takes = [([layer], [], ("take", layer)) for layer in layers if layer[0] != "cipher" or layer in keys]
    return puts + takes


def rules_of_protocol(agents, protocol):
    """The rules of the answers of a protocol."""
    name = protocol.name()
    steps = protocol.steps()
    rules = []
    for agent in agents:
        for partner in agents:
            if agent == partner:
                continue
            for number in range(1, len(steps)):
                takes, puts = dealt_step(steps[number], agent, partner)
                rules.append((takes, puts, ("answer", name, agent, partner, number)))
    return rules


def rules_of(post, protocols):
    """The rules of all moves; of those that take and put the same the first one."""
    rules = rules_of_adversary(checked_post(post))
    for protocol in checked_protocols(protocols):
        rules.extend(rules_of_protocol(post.agents(), protocol))
    firsts = {}
    for takes, puts, move in rules:
        firsts.setdefault((tuple(takes), tuple(puts)), (takes, puts, move))
    return list(firsts.values())


def after(rules, layers, rule):
    """The layers that a rule makes of layers, None if what it takes is not their top."""
    plain = checked_rules(rules)
    row = checked_layers(layers)
    if not is_below(rule, len(plain)):
        raise BadRule(rule)
    takes, puts, _ = plain[rule]
    return puts + row[len(takes):] if begins_with(row, takes) else None


def controls_of(rules):
    """The controls of plain rules, ascending."""
    found = {(): True}
    for takes, _, _ in rules:
        for length in range(1, len(takes)):
            found[tuple(takes[:length])] = True
    return sorted(found)


def controls(rules):
    """All beginnings of what some rule takes that are shorter than that, and the empty one."""
    return controls_of(checked_rules(rules))

"""Who only listens, and who answers so often: counted answers, honest runs, and what is overheard of these."""

from roadheld.agents import may_take
from roadheld.coding import coded_rules
from roadheld.deeds import are_two, dealt_step
from roadheld.errors import BadAgent, BadAgents, BadCore, BadPartner, BadProtocol
from roadheld.forms import as_agents, is_agent, is_integer
from roadheld.handed import checked_post, checked_protocols, checked_question
from roadheld.mends import goes_on
from roadheld.protocols import checked_protocol
from roadheld.rules import rules_of, rules_of_answers
from roadheld.solving import Solver


def checked_agents(post, agents):
    """Unlike agents of a post."""
    plain = as_agents(agents)
    names = post.agents()
    if plain is None or not all([agent in names for agent in plain]):
        raise BadAgents(agents)
    return plain


def counted_among(rules, post, protocols, agents):
    """The indexes of those of the rules of a post and protocols that answers of some agents alone bring about."""
    others = {}
    for takes, puts, move in rules_of_answers(post.agents(), protocols):
        if move[2] not in agents:
            others[(tuple(takes), tuple(puts))] = True
    # What a put or take brings about, too, stands in rules by this.
    return [index for index, (takes, puts, move) in enumerate(rules)
            if move[0] == "answer" and (tuple(takes), tuple(puts)) not in others]


def counted_moves(post, protocols, agents):
    """The indexes of the rules that no put, no take, and no answer of another agent brings about."""
    checked_post(post)
    checked_protocols(protocols)
    return counted_among(rules_of(post, protocols), post, protocols, checked_agents(post, agents))


def answers_needed(post, protocols, messages, agents):
    """How often some agents have to answer at least so that one of messages comes bare; None if none does."""
    held = checked_question(post, protocols, messages)
    names = checked_agents(post, agents)
    rules = rules_of(post, protocols)
    counted = {index: True for index in counted_among(rules, post, protocols, names)}
    coded = coded_rules(rules)
    rows = [coded.code_row(layers) for layers, _ in held]
    weights = [1 if index in counted else 0 for index in range(len(rules))]
    return Solver(coded, weights, rows).least_number()


def checked_going(protocol):
    """A protocol that goes on."""
    if goes_on(checked_protocol(protocol)) is not None:
        raise BadProtocol(protocol)
    return protocol


def messages_of_run(protocol, agent, partner, core):
    """The messages that come if two agents do the steps of a protocol that goes on."""
    told = []
    layers = []
    for step in protocol.plain_steps():
        who, other = (agent, partner) if step[0] == 0 else (partner, agent)
        takes, puts = dealt_step(step, who, other)
        layers = puts + layers[len(takes):]
        told.append((layers, core))
    return told


def run_messages(protocol, agent, partner, core):
    """The messages that come, step by step, if two agents do the steps one behind another."""
    checked_going(protocol)
    if not is_agent(agent):
        raise BadAgent(agent)
    if not is_agent(partner) or partner == agent:
        raise BadPartner(partner)
    if not is_integer(core):
        raise BadCore(core)
    return messages_of_run(protocol, agent, partner, core)


def overheard(post, protocol, agent, partner):
    """The index of the first message of a run all of whose layers the adversary may take off; None if there is none."""
    agents = checked_post(post).agents()
    checked_going(protocol)
    if not isinstance(agent, str) or agent not in agents:
        raise BadAgent(agent)
    if not are_two(agents, agent, partner):
        raise BadPartner(partner)
    for index, (layers, _) in enumerate(messages_of_run(protocol, agent, partner, 0)):
        if all([may_take(post, layer) for layer in layers]):
            return index
    return None

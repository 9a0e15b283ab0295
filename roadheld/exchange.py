"""Agents exchanged for the adversary's own one: posts of fewer agents, and their messages."""

from roadheld.agents import Post
from roadheld.forms import as_agents
from roadheld.handed import checked_messages, checked_post
from roadheld.refusals import BadAdversary, BadKept


def standins(post, kept, adversary):
    """For each agent of a post who stands for it: itself if it stays, else adversary."""
    agents = checked_post(post).agents()
    stay = as_agents(kept)
    if stay is None or not all([agent in agents for agent in stay]):
        raise BadKept(kept)
    keys = post.keyring()
    if not isinstance(adversary, str) or ("cipher", adversary) not in keys or ("seal", adversary) not in keys:
        raise BadAdversary(adversary)
    return {agent: agent if agent in stay else adversary for agent in agents}


def exchange_layers(layers, others):
    """Plain layers with their agents exchanged; words stay."""
    return [(kind, others.get(whose, whose)) for kind, whose in layers]


def exchange_messages(messages, others):
    """Plain messages with the agents of their layers exchanged."""
    return [(exchange_layers(layers, others), core) for layers, core in messages]


def exchanged(post, kept, adversary, messages):
    """The messages with each agent of their layers that does not stay exchanged for adversary."""
    others = standins(post, kept, adversary)
    return exchange_messages(checked_messages(messages, post.agents()), others)


def fewer(post, kept, adversary):
    """The post of the agents that stay, with the keys that are theirs."""
    others = standins(post, kept, adversary)
    keys = [(kind, agent) for kind, agent in post.keyring() if others[agent] == agent]
    return Post([agent for agent in post.agents() if others[agent] == agent], keys)


def agents_in(messages):
    """The agents of the layers of messages, ascending."""
    found = {}
    for layers, _ in checked_messages(messages, None):
        for kind, whose in layers:
            if kind != "word":
                found[whose] = True
    return sorted(found)

"""How soon messages come bare with one lost agent more, with two, and so on."""

from roadheld.agents import Post
from roadheld.attacks import fewest
from roadheld.coding import coded_rules
from roadheld.deeds import dealt_step
from roadheld.exchange import agents_in
from roadheld.handed import checked_messages, checked_most, checked_post, checked_protocols
from roadheld.rules import rules_needed
from roadheld.solving import Solver

# With more lost agents than so many no message comes bare any sooner.
MANY_ENOUGH = 6
LETTERS = "abcdefghijklmnopqrstuvwxyz"


def new_agents(agents, many):
    """The first of a, b, .., z, aa, ab, .. that are none of some agents, so many."""
    told = []
    longer = [""]
    while True:
        longer = [text + letter for text in longer for letter in LETTERS]
        for name in longer:
            if len(told) == many:
                return told
            if name not in agents:
                told.append(name)


def post_with(post, agents, many):
    """A post of some agents, with those of a post's keys that are theirs, and so many lost agents more."""
    lost = new_agents(agents, many)
    keys = [key for key in post.keyring() if key[1] in agents]
    return Post(agents + lost, keys + [(kind, agent) for kind in ("cipher", "seal") for agent in lost])


def lower_bound(post, protocols, held, lost):
    """A number than which no less is told, however many lost agents there are, one of whom stands for all of them.

    That one has to be able to answer itself, as two of them may answer each other.
    """
    rows = [layers for layers, _ in held]
    rules = rules_needed(post, protocols, rows)
    for protocol in protocols:
        for step in protocol.plain_steps()[1:]:
            takes, puts = dealt_step(step, lost, lost)
            rules.append((takes, puts, None))
    coded = coded_rules(rules)
    return Solver(coded, None, [coded.code_row(row) for row in rows]).least_number()


def numbers_by(post, protocols, messages, most):
    """The least numbers of moves by which one of messages comes bare, with one lost agent more, two, and so on."""
    checked_post(post)
    checked_protocols(protocols)
    held = checked_messages(messages, post.agents())
    checked_most(most)
    agents = agents_in(held)
    bound = None
    told = []
    for many in range(1, min(most, MANY_ENOUGH) + 1):
        with_lost = post_with(post, agents, many)
        found = fewest(with_lost, protocols, held)
        if found is None:
            return [None for _ in range(most)]
        told.append(found[0])
        if many == 1:
            bound = lower_bound(with_lost, protocols, held, new_agents(agents, 1)[0])
        if told[-1] == bound:
            break
    return told + [told[-1] for _ in range(most - len(told))]

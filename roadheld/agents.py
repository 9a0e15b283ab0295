"""Posts of agents: who there is, and which keys the adversary has."""

from roadheld.errors import BadAgents, BadKeys, BadLayer, BadPost
from roadheld.forms import as_agents, as_keys, as_layer


def has_own_agent(agents, keys):
    """Whether there is an agent both of whose keys are among some keys."""
    held = {key: True for key in keys}
    return any([("cipher", agent) in held and ("seal", agent) in held for agent in agents])


class Post:
    """Some agents, and the keys of them that the adversary has."""

    def __init__(self, agents, keyring):
        names = as_agents(agents)
        if names is None:
            raise BadAgents(agents)
        keys = as_keys(keyring, names)
        if keys is None or not has_own_agent(names, keys):
            raise BadKeys(keyring)
        self._agents = tuple(sorted(names))
        self._keys = tuple(sorted(keys))

    def agents(self):
        """All agents, ascending."""
        return list(self._agents)

    def keyring(self):
        """The keys that the adversary has, ascending."""
        return list(self._keys)

    def __eq__(self, other):
        return isinstance(other, Post) and self._agents == other._agents and self._keys == other._keys


def asked_layer(post, layer):
    """The layer of a question whether the adversary may, as a tuple."""
    if not isinstance(post, Post):
        raise BadPost(post)
    plain = as_layer(layer, post.agents())
    if plain is None:
        raise BadLayer(layer)
    return plain


def may_put(post, layer):
    """Whether the adversary may put a layer on."""
    plain = asked_layer(post, layer)
    return plain[0] != "seal" or plain in post.keyring()


def may_take(post, layer):
    """Whether the adversary may take a layer off."""
    plain = asked_layer(post, layer)
    return plain[0] != "cipher" or plain in post.keyring()

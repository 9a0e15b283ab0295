"""Which lots of protocols, and of keys given away besides, fall: found with few askings."""

from roadheld.agents import Post
from roadheld.coding import coded_rules
from roadheld.errors import BadOne, BadZero
from roadheld.handed import checked_post, checked_protocols
from roadheld.rules import first_messages, rules_needed
from roadheld.solving import Solver


def checked_together(post, protocols, zero, one):
    """A post, protocols and two unlike agents of the post, looked at; the protocols as a list."""
    agents = checked_post(post).agents()
    plain = checked_protocols(protocols)
    if not isinstance(zero, str) or zero not in agents:
        raise BadZero(zero)
    if not isinstance(one, str) or one not in agents or one == zero:
        raise BadOne(one)
    return plain


def comes_bare(post, protocols, rows):
    """Whether a message of some rows of layers ever comes bare."""
    coded = coded_rules(rules_needed(post, protocols, rows))
    return Solver(coded, None, [coded.code_row(row) for row in rows]).least_number() is not None


def fall_together(post, protocols, zero, one):
    """Whether a message that begins of protocols make comes bare with these alone."""
    return comes_bare(post, protocols, [layers for layers, _ in first_messages(post, protocols, zero, one, 0)])


def by_name(protocols):
    """Protocols, by their names."""
    table = {protocol.name(): protocol for protocol in protocols}
    return [table[name] for name in sorted(table)]


class Fallings:
    """Which lots fall; a lot is an integer, its bits protocols and then keys, in the order in which they stand here."""

    def __init__(self, post, protocols, keys, zero, one):
        self.post = post
        self.protocols = protocols
        self.keys_asked = keys
        self.zero = zero
        self.one = one
        self.known = {}

    def named(self, lot):
        """The protocols of a lot."""
        return [protocol for at, protocol in enumerate(self.protocols) if lot >> at & 1]

    def names(self, lot):
        """The names of the protocols of a lot."""
        return [protocol.name() for protocol in self.named(lot)]

    def given(self, lot):
        """The keys of a lot."""
        begin = len(self.protocols)
        return [key for at, key in enumerate(self.keys_asked) if lot >> begin + at & 1]

    def holds(self, lot):
        """Whether a lot falls, looked for once."""
        if lot not in self.known:
            post = Post(self.post.agents(), self.post.keyring() + self.given(lot))
            self.known[lot] = fall_together(post, self.named(lot), self.zero, self.one)
        return self.known[lot]

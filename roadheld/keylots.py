"""Keys given away: which lots of them break a question, the cheapest one, and how much each key counts."""

from roadheld.agents import Post
from roadheld.attacks import judged_attack
from roadheld.forms import is_number, is_row
from roadheld.handed import checked_post, checked_question
from roadheld.lots import Lots, as_asked_keys, checked_keys
from roadheld.refusals import BadAttack, BadLot, BadPrices


def with_keys(post, lot):
    """The post by which the adversary has the keys of a lot, too."""
    plain = as_asked_keys(checked_post(post), lot)
    if plain is None:
        raise BadLot(lot)
    return Post(post.agents(), post.keyring() + plain)


def asked_lots(post, protocols, messages, keys):
    """The keys of a question, as they are asked, and all of their lots."""
    held = checked_question(post, protocols, messages)
    plain = checked_keys(post, keys)
    return (plain, Lots(post, protocols, held, plain))


def least_breaking(post, protocols, messages, keys):
    """The lots that break, while without any one of its keys each stands."""
    _, lots = asked_lots(post, protocols, messages, keys)
    return lots.least()


def greatest_standing(post, protocols, messages, keys):
    """The lots that stand, while with any other key each breaks."""
    _, lots = asked_lots(post, protocols, messages, keys)
    return lots.greatest()


def checked_prices(prices, many):
    """A list of as many numbers."""
    if not is_row(prices) or len(prices) != many or not all([is_number(price) for price in prices]):
        raise BadPrices(prices)
    return list(prices)


def cheapest(post, protocols, messages, keys, prices):
    """The least price of a lot that breaks, and the first such lot; None if none breaks."""
    held = checked_question(post, protocols, messages)
    plain = checked_keys(post, keys)
    price_of = dict(zip(plain, checked_prices(prices, len(plain))))
    lots = Lots(post, protocols, held, plain)
    priced = [(sum([price_of[key] for key in lot]), lot) for lot in lots.all_breaking()]
    return min(priced) if priced else None


def turns(post, protocols, messages, keys):
    """For each key how many lots stand that break with it."""
    plain, lots = asked_lots(post, protocols, messages, keys)
    return [lots.turned_by(key) for key in plain]


def used_keys(post, protocols, messages, attack):
    """The keys by which the puts and takes of an attack are done, ascending."""
    if judged_attack(post, protocols, messages, attack) is not None:
        raise BadAttack(attack)
    used = {}
    for move in attack[1]:
        if move[0] == "put" and move[1][0] == "seal" or move[0] == "take" and move[1][0] == "cipher":
            used[(move[1][0], move[1][1])] = True
    return sorted(used)

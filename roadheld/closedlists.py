"""Closed lists of drops: by them anybody sees that a drop is not there."""

from roadheld.bookrows import as_known_drop, written
from roadheld.errors import BadDrop, BadDrops
from roadheld.handed import coded_of, known_rules
from roadheld.pricelists import Priced
from roadheld.tracing import Traced


def lacking(rules, drops):
    """The least drop that a list of drops lacks to be closed, None if it is closed."""
    known = {}
    plain = known_rules(rules, known)
    listed = Priced(known)
    if not listed.note_all(drops, False):
        raise BadDrops(drops)
    return listed.first_wrong(plain, {})


def is_closed(rules, thing):
    """Whether any object is a closed list of drops."""
    known = {}
    plain = known_rules(rules, known)
    listed = Priced(known)
    return listed.note_all(thing, False) and listed.holds(plain, {})


def shown(rules, drop):
    """A book for a drop, or a closed list without it."""
    coded = coded_of(rules)
    asked = as_known_drop(drop, coded.known)
    if asked is None:
        raise BadDrop(drop)
    traced = Traced(coded, None, None)
    key = traced.drop_of(asked)
    if key in traced.numbers:
        return ("book", written(traced, [key])[0])
    return ("closed", [told for told, _ in traced.all_drops()])

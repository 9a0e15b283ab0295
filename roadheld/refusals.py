"""The refusals of what is built on attacks and papers; the others stand in errors."""

from roadheld.errors import ProtocolError


class BadPaperText(ProtocolError):
    """Tells that a line of a paper's text goes on wrongly."""

    def __init__(self, line):
        self.line = line


class BadAnswer(ProtocolError):
    """Tells that an answer is none of its question."""

    def __init__(self, answer):
        self.answer = answer


class BadAudit(ProtocolError):
    """Tells that a line of an audit is wrong."""

    def __init__(self, line):
        self.line = line


class BadAsked(ProtocolError):
    """Tells that what is asked about is no machine."""

    def __init__(self, asked):
        self.asked = asked


class BadForm(ProtocolError):
    """Tells that a form is none."""

    def __init__(self, form):
        self.form = form


class BadKept(ProtocolError):
    """Tells that who is kept is no list of unlike agents of a post."""

    def __init__(self, kept):
        self.kept = kept


class BadAdversary(ProtocolError):
    """Tells that who stands for the adversary is no lost agent."""

    def __init__(self, adversary):
        self.adversary = adversary


class BadAttack(ProtocolError):
    """Tells that an attack is none."""

    def __init__(self, attack):
        self.attack = attack


class BadPaper(ProtocolError):
    """Tells that a paper is none such as is asked for."""

    def __init__(self, paper):
        self.paper = paper


class BadLot(ProtocolError):
    """Tells that a lot is no list of unlike keys that are asked about."""

    def __init__(self, lot):
        self.lot = lot


class BadLots(ProtocolError):
    """Tells that lots are no list of lots."""

    def __init__(self, lots):
        self.lots = lots


class BadPrices(ProtocolError):
    """Tells that prices are not such as are asked for."""

    def __init__(self, prices):
        self.prices = prices


class BadNames(ProtocolError):
    """Tells that names are no list of unlike names of protocols."""

    def __init__(self, names):
        self.names = names


class Crowded(ProtocolError):
    """Tells that there are to be more words than there can be."""

    def __init__(self, many):
        self.many = many


class BadMend(ProtocolError):
    """Tells that a mend is none of a protocol."""

    def __init__(self, mend):
        self.mend = mend


class BadCounted(ProtocolError):
    """Tells that counted rules are no list of unlike indexes of rules."""

    def __init__(self, counted):
        self.counted = counted


class BadLong(ProtocolError):
    """Tells that a length is no number."""

    def __init__(self, long):
        self.long = long


class BadOthers(ProtocolError):
    """Tells that a rule of the other list is none."""

    def __init__(self, index):
        self.index = index


class BadBesides(ProtocolError):
    """Tells that messages of the other rules are no list of messages."""

    def __init__(self, besides):
        self.besides = besides


class BadEdit(ProtocolError):
    """Tells that an edit is none of a desk."""

    def __init__(self, edit):
        self.edit = edit


class BadDesk(ProtocolError):
    """Tells that a line of a desk's text is wrong."""

    def __init__(self, line):
        self.line = line

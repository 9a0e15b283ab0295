"""What is refused, each kind by an error of its own, which keeps what it was made with."""


class ProtocolError(ValueError):
    """What all refusals have in common."""


class BadPost(ProtocolError):
    """Tells that a post is no Post."""

    def __init__(self, post):
        self.post = post


class BadProtocol(ProtocolError):
    """Tells that a protocol is no Proto."""

    def __init__(self, protocol):
        self.protocol = protocol


class BadProtocols(ProtocolError):
    """Tells that protocols are no list of Protos of unlike names."""

    def __init__(self, protocols):
        self.protocols = protocols


class BadAgents(ProtocolError):
    """Tells that agents are no list of unlike agents."""

    def __init__(self, agents):
        self.agents = agents


class BadKeys(ProtocolError):
    """Tells that keys are not such as are asked for."""

    def __init__(self, keyring):
        self.keyring = keyring


class BadLayer(ProtocolError):
    """Tells that a layer is none, or is of no agent of the post."""

    def __init__(self, layer):
        self.layer = layer


class BadMessage(ProtocolError):
    """Tells that a message is none."""

    def __init__(self, message):
        self.message = message


class BadText(ProtocolError):
    """Tells that a text goes on wrongly at a place."""

    def __init__(self, place):
        self.place = place


class BadName(ProtocolError):
    """Tells that a name is none, or nothing is called so."""

    def __init__(self, name):
        self.name = name


class BadSteps(ProtocolError):
    """Tells that a step of a list is wrong."""

    def __init__(self, index):
        self.index = index


class BadLayers(ProtocolError):
    """Tells that layers are no list of layers."""

    def __init__(self, layers):
        self.layers = layers


class BadZero(ProtocolError):
    """Tells that who is to stand in part 0 is no agent."""

    def __init__(self, zero):
        self.zero = zero


class BadOne(ProtocolError):
    """Tells that who is to stand in part 1 is no agent, or stands in part 0."""

    def __init__(self, one):
        self.one = one


class BadWords(ProtocolError):
    """Tells that words are no dict of just the words of a protocol."""

    def __init__(self, words):
        self.words = words


class BadOther(ProtocolError):
    """Tells that what is set beside the first is nothing of its kind."""

    def __init__(self, other):
        self.other = other


class BadProgram(ProtocolError):
    """Tells that a program is none."""

    def __init__(self, program):
        self.program = program


class BadStep(ProtocolError):
    """Tells that a step is none."""

    def __init__(self, step):
        self.step = step


class BadPart(ProtocolError):
    """Tells that a part is none."""

    def __init__(self, part):
        self.part = part


class BadPrograms(ProtocolError):
    """Tells that a program of a list is wrong."""

    def __init__(self, index):
        self.index = index


class BadPlace(ProtocolError):
    """Tells that a place is none of a row."""

    def __init__(self, place):
        self.place = place


class BadMessages(ProtocolError):
    """Tells that messages are no list of messages."""

    def __init__(self, messages):
        self.messages = messages


class BadLog(ProtocolError):
    """Tells that a log is no list of deeds, or one is refused."""

    def __init__(self, log):
        self.log = log


class BadAgent(ProtocolError):
    """Tells that an agent is none."""

    def __init__(self, agent):
        self.agent = agent


class BadPartner(ProtocolError):
    """Tells that a partner is no agent, or is the agent itself."""

    def __init__(self, partner):
        self.partner = partner


class BadCore(ProtocolError):
    """Tells that a core is no integer."""

    def __init__(self, core):
        self.core = core


class BadRules(ProtocolError):
    """Tells that a rule of a list is none."""

    def __init__(self, index):
        self.index = index


class BadRule(ProtocolError):
    """Tells that a rule's index is none."""

    def __init__(self, rule):
        self.rule = rule


class BadBook(ProtocolError):
    """Tells that a book is none."""

    def __init__(self, book):
        self.book = book


class BadDrop(ProtocolError):
    """Tells that a drop is none."""

    def __init__(self, drop):
        self.drop = drop


class BadDrops(ProtocolError):
    """Tells that drops are no list of drops."""

    def __init__(self, drops):
        self.drops = drops


class BadMoves(ProtocolError):
    """Tells that a move of a list is wrong."""

    def __init__(self, index):
        self.index = index


class BadWay(ProtocolError):
    """Tells that a way is none."""

    def __init__(self, way):
        self.way = way


class BadBegin(ProtocolError):
    """Tells that where moves are to begin is no number."""

    def __init__(self, begin):
        self.begin = begin


class BadMany(ProtocolError):
    """Tells that how many are asked for is no number."""

    def __init__(self, many):
        self.many = many


class BadMoment(ProtocolError):
    """Tells that a moment is no number of moves of a way."""

    def __init__(self, moment):
        self.moment = moment


class BadMost(ProtocolError):
    """Tells that the most that is asked for is no number."""

    def __init__(self, most):
        self.most = most


class BadMachine(ProtocolError):
    """Tells that a machine is none."""

    def __init__(self, machine):
        self.machine = machine


class BadStates(ProtocolError):
    """Tells that states are no list of unlike states of a machine."""

    def __init__(self, states):
        self.states = states

"""Agents taken in: through with a partner who did nothing, by a message that the adversary wrote."""

from roadheld.coding import coded_rules
from roadheld.deeds import all_steps, are_two, dealt_step, move_done
from roadheld.errors import BadAgent, BadName, BadPart, BadPartner
from roadheld.forms import is_part, is_row
from roadheld.growth import grow_rows
from roadheld.handed import checked_most, checked_post, checked_protocols
from roadheld.papers import first_unkept
from roadheld.rules import layers_needed, layers_of, rules_of_adversary, rules_of_answers, unlike_rules
from roadheld.tracing import Traced
from roadheld.walks import as_machine, goings_of, led, spread


def checked_name(protocols, name):
    """The steps of the protocol of a name."""
    table = all_steps(checked_protocols(protocols))
    if not isinstance(name, str) or name not in table:
        raise BadName(name)
    return table[name]


def checked_two(post, agent, partner):
    """Two unlike agents of a post."""
    agents = post.agents()
    if not isinstance(agent, str) or agent not in agents:
        raise BadAgent(agent)
    if not are_two(agents, agent, partner):
        raise BadPartner(partner)


def answers_without(post, protocols, name, agent, partner):
    """The rules of all answers but those of partner to agent in the protocol of a name."""
    return [rule for rule in rules_of_answers(post.agents(), protocols) if rule[2][1:4] != (name, partner, agent)]


def rules_without(post, protocols, name, agent, partner):
    """The rules that there would be without the answers of partner to agent in the protocol of a name."""
    checked_post(post)
    checked_name(protocols, name)
    checked_two(post, agent, partner)
    return unlike_rules(post.agents(), post.keyring(), answers_without(post, protocols, name, agent, partner))


class Question:
    """Whether an agent is taken in: the last step of its part, and the rules by which it may come to do it."""

    def __init__(self, post, protocols, name, part, agent, partner):
        checked_post(post)
        steps = checked_name(protocols, name)
        if not is_part(part):
            raise BadPart(part)
        numbers = [number for number, step in enumerate(steps) if step[0] == part]
        if not numbers or numbers[-1] == 0:
            raise BadPart(part)
        checked_two(post, agent, partner)
        self.agents = post.agents()
        self.keyring = post.keyring()
        self.protocols = protocols
        self.answers = answers_without(post, protocols, name, agent, partner)
        self.move = ("answer", name, agent, partner, numbers[-1])
        # The moves of the partner that do not count begin so.
        self.barred = ("answer", name, partner, agent)
        self.takes, _ = dealt_step(steps[numbers[-1]], agent, partner)

    def rules_by(self, layers):
        """Rules of the moves that count, puts and takes of some layers alone; some may take and put the same."""
        return rules_of_adversary(layers, self.keyring) + self.answers

    def solved(self):
        """What is solved of how the step comes to be done, the rules, and the row that is to come down.

        Behind the step whatever lies beneath goes off, by rules that count nothing.
        """
        layers = layers_needed(self.agents, self.protocols, [self.takes])
        rules = self.rules_by(layers)
        coded = coded_rules(rules)
        takes = coded.code_row(self.takes)
        bottom = coded.one_more()
        behind = coded.one_more()
        coded.rest.append((len(rules), takes, [behind]))
        coded.idle = [([behind, slot], [behind]) for slot in coded.code_row(layers)] + [([behind, bottom], [])]
        return (Traced(coded, None, [[bottom]]), rules, [bottom])

    def is_barred(self, thing):
        """Whether a move that is done is one of those that do not count."""
        return thing[0] == "answer" and tuple(thing[:4]) == self.barred


def taken_in(post, protocols, name, part, agent, partner):
    """The fewest moves by which an agent is taken in; None if it never is."""
    traced, _, _ = Question(post, protocols, name, part, agent, partner).solved()
    return traced.solver.least_number()


def attack_in(post, protocols, name, part, agent, partner, most):
    """As few moves as can be by which an agent is taken in; None if there are none, or more than most."""
    question = Question(post, protocols, name, part, agent, partner)
    checked_most(most)
    traced, rules, row = question.solved()
    number = traced.solver.least_number()
    if number is None or number > most:
        return None
    done = traced.moves_of(traced.drops_down(row))
    return [rules[rule][2] for rule in done if rule < len(rules)] + [question.move]


def is_attack_in(post, protocols, name, part, agent, partner, thing):
    """Whether any object is a list of moves by which an agent is taken in."""
    question = Question(post, protocols, name, part, agent, partner)
    if not is_row(thing) or len(thing) == 0:
        return False
    table = all_steps(protocols)
    layers = []
    for move in thing:
        word, told = move_done(post, table, (layers, 0), move)
        if word == "refused" or question.is_barred(move):
            return False
        layers = told[0]
    return tuple(thing[-1]) == question.move


def is_paper_of(question, machine):
    """Whether a plain machine shows that an agent is never taken in."""
    goings = goings_of(machine[2])
    firsts = {state: True for state in machine[1]}
    ends = {state: True for state in machine[3]}
    if not any([state in ends for state in firsts]):
        return False
    for rule in question.rules_by(layers_of(question.agents)):
        if first_unkept(goings, firsts, rule) is not None:
            return False
    onward = {}
    for state, _, other in machine[2]:
        onward.setdefault(state, []).append(other)
    return not any([state in ends for state in spread(led(goings, firsts, question.takes), onward)])


def paper_in(post, protocols, name, part, agent, partner):
    """A machine that shows that an agent is never taken in; None if it is."""
    question = Question(post, protocols, name, part, agent, partner)
    machine = grow_rows(coded_rules(question.rules_by(layers_of(question.agents))), [([], 0)])
    return machine if is_paper_of(question, machine) else None


def is_paper_in(post, protocols, name, part, agent, partner, thing):
    """Whether any object is a machine that shows that an agent is never taken in."""
    question = Question(post, protocols, name, part, agent, partner)
    machine = as_machine(thing)
    return machine is not None and is_paper_of(question, machine)

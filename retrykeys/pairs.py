"""Two clients on the same system, and the decision whether they interfere."""

from retrykeys.deciding import are_closed, is_shortest, nearest_run, searches_for
from retrykeys.errors import InvalidProtection, InvalidWorkflow
from retrykeys.runs import FAULTS, Machine, check_faults, check_protection, check_state
from retrykeys.services import check_situation, check_situations, check_system
from retrykeys.shapes import is_index, is_tuple
from retrykeys.workflows import check_size, check_workflow, plain_outcome


def check_workflows(system, workflows):
    """Raise the errors of a system and a pair of workflows."""
    check_system(system)
    if not is_tuple(workflows, 2, 2):
        raise InvalidWorkflow("not a pair of workflows")
    for workflow in workflows:
        check_workflow(system, workflow)
    for workflow in workflows:
        check_size(workflow, 2)


def check_protections(workflows, protections):
    """Raise InvalidProtection if a value is not a pair of protections of the workflows."""
    if not is_tuple(protections, 2, 2):
        raise InvalidProtection("not a pair of protections")
    for workflow, protection in zip(workflows, protections):
        check_protection(workflow, protection)


def check_pair(system, workflows, protections, situations, faults):
    """Raise the errors of the arguments of the decision about a pair."""
    check_workflows(system, workflows)
    check_protections(workflows, protections)
    check_situations(system, situations)
    check_faults(faults)


def one_by_one(system, workflow, other, situation):
    """Return the situation after two workflows that are executed one after the other, and both results."""
    between, result = plain_outcome(system, workflow, situation)
    final, second = plain_outcome(system, other, between)
    return final, result, second


def serial_outcomes(system, workflows, situation):
    """Return the list of the two outcomes that are serial for a situation at the start."""
    final, second, first = one_by_one(system, workflows[1], workflows[0], situation)
    return [one_by_one(system, workflows[0], workflows[1], situation), (final, first, second)]


def alone(state, client):
    """Return the state of the run of one client in a joint state."""
    return (state[0],) + state[client + 1]


class Duo:
    """The events of the joint runs of two clients, for arguments that are known to be valid."""

    def __init__(self, system, workflows, protections):
        self.system = system
        self.workflows = workflows
        self.machines = [Machine(system, workflow, part) for workflow, part in zip(workflows, protections)]
        self.serial = {}
        self.known = {}

    def initial(self, situation):
        """Return the initial joint state from a situation."""
        first, second = [machine.initial(situation) for machine in self.machines]
        return situation, first[1:], second[1:]

    def serial_from(self, start):
        """Return the list of the outcomes that are serial for a situation at the start."""
        if start not in self.serial:
            self.serial[start] = serial_outcomes(self.system, self.workflows, start)
        return self.serial[start]

    def is_target(self, state, start):
        """Tell whether both clients have returned in a state, and its outcome is not serial."""
        situation, first, second = state
        if first[1] is not None or second[1] is not None:
            return False
        return (situation, first[5], second[5]) not in self.serial_from(start)

    def is_state(self, value):
        """Tell whether any value has the form of a joint state."""
        if not is_tuple(value, 3, 3) or not all([isinstance(part, tuple) for part in value[1:]]):
            return False
        return all([self.machines[client].is_state(alone(value, client)) for client in range(2)])

    def steps(self, state, faults):
        """Return the pairs of an event that is possible in a state with a set of faults, and the state after it."""
        situation, first, second = state
        left = self.steps_of(0, situation, first, faults)
        right = self.steps_of(1, situation, second, faults)
        found = [(event, (final, part, second)) for event, final, part in left]
        return found + [(event, (final, first, part)) for event, final, part in right]

    def steps_of(self, client, situation, part, faults):
        """Return the steps of one client: for each event, the situation and the state of this client after it."""
        # The same state of a client occurs beside many states of the other one.
        place = (client, situation, part, faults)
        if place not in self.known:
            steps = self.machines[client].steps((situation,) + part, faults)
            self.known[place] = [((client, event), reached[0], reached[1:]) for event, reached in steps]
        return self.known[place]

    def attempt(self, state, faults, value):
        """Return the state after any value, or None if it is not an event that is possible with a set of faults."""
        if not is_tuple(value, 2, 2) or not is_index(value[0], 2):
            return None
        client, event = value
        reached = self.machines[client].attempt(alone(state, client), faults, event)
        if reached is None:
            return None
        parts = [state[1], state[2]]
        parts[client] = reached[1:]
        return reached[0], parts[0], parts[1]


class Isolated:
    """No joint run is bad: for each situation, a closed list of joint states."""

    def __init__(self, states):
        self.states = [list(row) for row in states]

    def __eq__(self, other):
        return isinstance(other, Isolated) and self.states == other.states

    def is_correct(self, system, workflows, protections, situations, faults):
        """Return whether the current lists are a correct result of `decide_pair`."""
        check_pair(system, workflows, protections, situations, faults)
        return are_closed(Duo(system, workflows, protections), situations, faults, self.states)


class Interfering:
    """A joint run is bad: its situation and its events, of which there are as few as possible."""

    def __init__(self, situation, events):
        self.situation = situation
        self.events = list(events)

    def __eq__(self, other):
        if not isinstance(other, Interfering):
            return False
        return self.situation == other.situation and self.events == other.events

    def is_correct(self, system, workflows, protections, situations, faults):
        """Return whether the current run is a correct result of `decide_pair`."""
        check_pair(system, workflows, protections, situations, faults)
        duo = Duo(system, workflows, protections)
        return is_shortest(duo, situations, faults, self.situation, self.events)


def initial_joint(system, workflows, situation):
    """Return the initial joint state from a situation."""
    check_workflows(system, workflows)
    check_situation(system, situation)
    return Duo(system, workflows, (((), ()), ((), ()))).initial(situation)


def next_joint(system, workflows, protections, state, event):
    """Return the joint state after an event, or None if it is not possible or not an event."""
    check_workflows(system, workflows)
    check_protections(workflows, protections)
    duo = Duo(system, workflows, protections)
    check_state(duo, state)
    return duo.attempt(state, FAULTS, event)


def decide_pair(system, workflows, protections, situations, faults):
    """Return an Isolated or an Interfering for a pair of workflows with protections."""
    check_pair(system, workflows, protections, situations, faults)
    searches = searches_for(Duo(system, workflows, protections), situations, faults)
    found = nearest_run(searches)
    if found is None:
        return Isolated([list(search.before) for search in searches])
    situation, events = found
    return Interfering(situation, events)

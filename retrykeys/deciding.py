"""The decision whether a protection is sufficient, and how many faults it tolerates."""

from retrykeys.runs import Machine, check_faults, check_protection
from retrykeys.services import check_situations
from retrykeys.workflows import check_workflow


def check_decision(system, workflow, protection, situations, faults):
    """Raise the errors of the arguments of a decision."""
    check_workflow(system, workflow)
    check_protection(workflow, protection)
    check_situations(system, situations)
    check_faults(faults)


class Search:
    """The states to which runs from a situation lead, each with the event that led there first.

    The states and events are those of a machine: an object that tells the initial state, the steps from a state,
    and whether a state is a target.
    """

    def __init__(self, machine, situation, faults):
        first = machine.initial(situation)
        self.machine = machine
        self.situation = situation
        self.faults = faults
        self.before = {first: None}
        self.edge = [first]

    def reach(self, states, faults):
        """Apply one more event to each of the states, and return the new states that this reaches."""
        found = []
        for state in states:
            for event, reached in self.machine.steps(state, faults):
                if reached not in self.before:
                    self.before[reached] = (state, event)
                    found.append(reached)
        return found

    def widen(self):
        """Go from the edge to the states that are one event further."""
        self.edge = self.reach(self.edge, self.faults)

    def exhaust(self):
        """Go on to all states to which runs lead."""
        while self.edge:
            self.widen()

    def settle(self):
        """Add to the edge the states that need no further fault."""
        found = self.edge
        while found:
            found = self.reach(found, ())
            self.edge = self.edge + found

    def strike(self):
        """Go from a settled edge to the states that need one more fault."""
        self.widen()
        self.settle()

    def run(self):
        """Return the situation and the events that led to a target on the edge, or None if there is none."""
        for state in self.edge:
            if self.machine.is_target(state, self.situation):
                return self.situation, self.events_to(state)
        return None

    def events_to(self, state):
        """Return the events that led to a state first."""
        events = []
        link = self.before[state]
        while link is not None:
            state, event = link
            events.append(event)
            link = self.before[state]
        events.reverse()
        return events


def searches_for(machine, situations, faults):
    """Return a new search from each of the situations."""
    return [Search(machine, situation, faults) for situation in situations]


def first_run(searches):
    """Return the run to a target on the edge of one of the searches, or None if there is none."""
    for search in searches:
        found = search.run()
        if found is not None:
            return found
    return None


def nearest_run(searches):
    """Return a run to a target with the fewest events, or None, after a search of all states, if there is none."""
    while any([search.edge for search in searches]):
        found = first_run(searches)
        if found is not None:
            return found
        for search in searches:
            search.widen()
    return None


def rarest_run(searches):
    """Return a run to a target with the fewest faults, or None if there is none."""
    for search in searches:
        search.settle()
    while any([search.edge for search in searches]):
        found = first_run(searches)
        if found is not None:
            return found
        for search in searches:
            search.strike()
    return None


def shortest_run(machine, situations, faults):
    """Return a run to a target with the fewest events: a situation and the events, or None if there is none."""
    return nearest_run(searches_for(machine, situations, faults))


def hits(machine, situation, faults, events):
    """Tell whether events are possible, one after the other, and lead to a target on their way."""
    state = machine.initial(situation)
    hit = machine.is_target(state, situation)
    for event in events:
        state = machine.attempt(state, faults, event)
        if state is None:
            return False
        hit = hit or machine.is_target(state, situation)
    return hit


def is_shortest(machine, situations, faults, situation, events):
    """Tell whether events from one of the situations lead to a target, and no fewer ones do."""
    if situation not in situations or not hits(machine, situation, faults, events):
        return False
    return len(shortest_run(machine, situations, faults)[1]) == len(events)


def is_closed(machine, situation, faults, states):
    """Tell whether states contain the initial one and what events lead to, and no target."""
    if not all([machine.is_state(state) for state in states]):
        return False
    known = {state: True for state in states}
    if machine.initial(situation) not in known:
        return False
    for state in known:
        if machine.is_target(state, situation):
            return False
        for _, reached in machine.steps(state, faults):
            if reached not in known:
                return False
    return True


def are_closed(machine, situations, faults, rows):
    """Tell whether there is a closed list of states for each of the situations."""
    if len(rows) != len(situations):
        return False
    return all([is_closed(machine, situation, faults, states) for situation, states in zip(situations, rows)])


class Sufficient:
    """No run is bad: for each situation, a closed list of states."""

    def __init__(self, states):
        self.states = [list(row) for row in states]

    def __eq__(self, other):
        return isinstance(other, Sufficient) and self.states == other.states

    def is_correct(self, system, workflow, protection, situations, faults):
        """Return whether the current lists are a correct result of `decide`."""
        check_decision(system, workflow, protection, situations, faults)
        return are_closed(Machine(system, workflow, protection), situations, faults, self.states)


class Insufficient:
    """A run is bad: its situation and its events, of which there are as few as possible."""

    def __init__(self, situation, events):
        self.situation = situation
        self.events = list(events)

    def __eq__(self, other):
        if not isinstance(other, Insufficient):
            return False
        return self.situation == other.situation and self.events == other.events

    def is_correct(self, system, workflow, protection, situations, faults):
        """Return whether the current run is a correct result of `decide`."""
        check_decision(system, workflow, protection, situations, faults)
        machine = Machine(system, workflow, protection)
        return is_shortest(machine, situations, faults, self.situation, self.events)


def decide(system, workflow, protection, situations, faults):
    """Return a Sufficient or an Insufficient for a protection."""
    check_decision(system, workflow, protection, situations, faults)
    searches = searches_for(Machine(system, workflow, protection), situations, faults)
    found = nearest_run(searches)
    if found is None:
        return Sufficient([list(search.before) for search in searches])
    situation, events = found
    return Insufficient(situation, events)


def weakest(system, workflow, protection, situations, faults):
    """Return a situation and the events of a bad run with the fewest faults, or None if no run is bad."""
    check_decision(system, workflow, protection, situations, faults)
    return rarest_run(searches_for(Machine(system, workflow, protection), situations, faults))


def tolerance(system, workflow, protection, situations, faults):
    """Return the greatest number of faults with which no run is bad, or None if no run is bad at all."""
    found = weakest(system, workflow, protection, situations, faults)
    if found is None:
        return None
    return len([event for event in found[1] if event != ("do",)]) - 1

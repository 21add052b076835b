"""The decision whether a protection is sufficient, and how many faults it tolerates."""

from retrykeys.runs import Machine, check_faults, check_protection
from retrykeys.services import check_situations
from retrykeys.workflows import check_workflow


def check_decision(system, workflow, protection, situations, faults):
    """Raise the errors of the arguments of a decision."""
    check_workflow(system, workflow)
    check_protection(workflow, protection)
    check_situations(system, situations)
    check_faults(faults)


def is_wrong(state, right):
    """Tell whether the client has returned in a state, and the outcome is not the right one."""
    return state[2] is None and (state[0], state[6]) != right


class Search:
    """The states to which runs from a situation lead, each with the event that led there first."""

    def __init__(self, machine, situation, faults):
        first = machine.initial(situation)
        self.machine = machine
        self.situation = situation
        self.faults = faults
        self.right = machine.right_outcome(situation)
        self.before = {first: None}
        self.edge = [first]
        self.wrong = None

    def reach(self, states, faults):
        """Apply one more event to each of the states, and return the new states that this reaches."""
        found = []
        for state in states:
            for event in self.machine.moves(state, faults):
                reached = self.machine.after(state, event)
                if reached not in self.before:
                    self.before[reached] = (state, event)
                    found.append(reached)
                    if self.wrong is None and is_wrong(reached, self.right):
                        self.wrong = reached
        return found

    def widen(self):
        """Go from the edge to the states that are one event further."""
        self.edge = self.reach(self.edge, self.faults)

    def settle(self):
        """Add to the edge the states that need no further fault."""
        found = self.edge
        while found:
            found = self.reach(found, ())
            self.edge = self.edge + found

    def strike(self):
        """Go from a settled edge to the states that need one more fault."""
        self.widen()
        self.settle()

    def bad_run(self):
        """Return the situation, and the events that led to the bad state."""
        events = []
        link = self.before[self.wrong]
        while link is not None:
            state, event = link
            events.append(event)
            link = self.before[state]
        events.reverse()
        return self.situation, events


def shortest_bad_run(searches):
    """Return a situation and the events of a bad run of the least length, or None if no run is bad."""
    while any([search.edge for search in searches]):
        for search in searches:
            search.widen()
            if search.wrong is not None:
                return search.bad_run()
    return None


def rarest_bad_run(searches):
    """Return a situation and the events of a bad run with the fewest faults, or None if no run is bad."""
    for search in searches:
        search.settle()
    while any([search.edge for search in searches]):
        for search in searches:
            search.strike()
            if search.wrong is not None:
                return search.bad_run()
    return None


def searches_for(machine, situations, faults):
    """Return a new search from each of the situations."""
    return [Search(machine, situation, faults) for situation in situations]


def is_bad_run(machine, situation, faults, events):
    """Tell whether events are possible, one after the other, and lead to a bad state on their way."""
    right = machine.right_outcome(situation)
    state = machine.initial(situation)
    bad = False
    for event in events:
        if not machine.allows(state, faults, event):
            return False
        state = machine.after(state, event)
        bad = bad or is_wrong(state, right)
    return bad


def is_closed(machine, situation, faults, states):
    """Tell whether states contain the initial one and what events lead to, and have right outcomes."""
    if not all([machine.is_state(state) for state in states]):
        return False
    known = {state: True for state in states}
    if machine.initial(situation) not in known:
        return False
    right = machine.right_outcome(situation)
    for state in known:
        if is_wrong(state, right):
            return False
        for event in machine.moves(state, faults):
            if machine.after(state, event) not in known:
                return False
    return True


class Sufficient:
    """No run is bad: for each situation, a closed list of states."""

    def __init__(self, states):
        self.states = [list(row) for row in states]

    def __eq__(self, other):
        return isinstance(other, Sufficient) and self.states == other.states

    def is_correct(self, system, workflow, protection, situations, faults):
        """Return whether the current lists are a correct result of `decide`."""
        check_decision(system, workflow, protection, situations, faults)
        if len(self.states) != len(situations):
            return False
        machine = Machine(system, workflow, protection)
        for situation, states in zip(situations, self.states):
            if not is_closed(machine, situation, faults, states):
                return False
        return True


class Insufficient:
    """A run is bad: its situation and its events, of which there are as few as possible."""

    def __init__(self, situation, events):
        self.situation = situation
        self.events = list(events)

    def __eq__(self, other):
        if not isinstance(other, Insufficient):
            return False
        return self.situation == other.situation and self.events == other.events

    def is_correct(self, system, workflow, protection, situations, faults):
        """Return whether the current run is a correct result of `decide`."""
        check_decision(system, workflow, protection, situations, faults)
        machine = Machine(system, workflow, protection)
        if self.situation not in situations or not is_bad_run(machine, self.situation, faults, self.events):
            return False
        shortest = shortest_bad_run(searches_for(machine, situations, faults))
        return shortest is not None and len(shortest[1]) == len(self.events)


def decide(system, workflow, protection, situations, faults):
    """Return a Sufficient or an Insufficient for a protection."""
    check_decision(system, workflow, protection, situations, faults)
    searches = searches_for(Machine(system, workflow, protection), situations, faults)
    found = shortest_bad_run(searches)
    if found is None:
        return Sufficient([list(search.before) for search in searches])
    situation, events = found
    return Insufficient(situation, events)


def weakest(system, workflow, protection, situations, faults):
    """Return a situation and the events of a bad run with the fewest faults, or None if no run is bad."""
    check_decision(system, workflow, protection, situations, faults)
    return rarest_bad_run(searches_for(Machine(system, workflow, protection), situations, faults))


def tolerance(system, workflow, protection, situations, faults):
    """Return the greatest number of faults with which no run is bad, or None if no run is bad at all."""
    found = weakest(system, workflow, protection, situations, faults)
    if found is None:
        return None
    return len([event for event in found[1] if event != ("do",)]) - 1

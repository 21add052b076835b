"""Protections, faults, the states of runs, and the events that change them."""

from retrykeys.errors import InvalidEvent, InvalidFaults, InvalidProtection, InvalidState
from retrykeys.services import check_situation, is_situation
from retrykeys.shapes import is_answer, is_index, is_selection, is_tuple
from retrykeys.workflows import calls_of, check_workflow, following, names_of, plain_outcome, served

FAULTS = ("fall", "late", "loss")


def is_protection(workflow, value):
    """Tell whether any value is a protection of a workflow."""
    return is_tuple(value, 2, 2) and all([is_selection(part, calls_of(workflow)) for part in value])


def is_event(value):
    """Tell whether any value has the form of an event."""
    if not is_tuple(value, 1, 2) or not isinstance(value[0], str):
        return False
    if len(value) == 1:
        return value[0] in ("do", "lose", "cut", "fall")
    return value[0] == "late" and is_index(value[1], 10)


def is_values(names, value):
    """Tell whether any value is a tuple of pairs of these names and answers."""
    if not is_tuple(value, len(names), len(names)):
        return False
    return all([is_value_of(name, pair) for name, pair in zip(names, value)])


def is_value_of(name, value):
    """Tell whether any value is a pair of a name and an answer."""
    if not is_tuple(value, 2, 2) or not isinstance(value[0], str):
        return False
    return value[0] == name and is_answer(value[1])


def is_remembered(keys, value):
    """Tell whether any value is a tuple of pairs of steps with a key, ascending, and answers."""
    if not isinstance(value, tuple) or not all([is_tuple(pair, 2, 2) for pair in value]):
        return False
    steps = tuple([pair[0] for pair in value])
    return is_selection(steps, keys) and all([is_answer(pair[1]) for pair in value])


def check_protection(workflow, protection):
    """Raise InvalidProtection if a value is not a protection of a workflow."""
    if not is_protection(workflow, protection):
        raise InvalidProtection("not a protection of the workflow")


def check_faults(faults):
    """Raise InvalidFaults if a value is not a set of faults."""
    if not is_selection(faults, FAULTS):
        raise InvalidFaults("not a set of faults")


def assigned(values, name, answer):
    """Return values with an answer assigned to a name."""
    return tuple([(other, answer if other == name else value) for other, value in values])


class Machine:
    """The events of the runs of a workflow with a protection, for arguments that are known to be valid."""

    def __init__(self, system, workflow, protection):
        self.system = system
        self.workflow = workflow
        self.keyed, self.checked = protection
        self.names = names_of(workflow)
        self.rights = {}

    def initial(self, situation):
        """Return the initial state of a run from a situation."""
        zeros = tuple([(name, 0) for name in self.names])
        return situation, (), 0, zeros, (0, zeros), (), None

    def right_from(self, start):
        """Return the correct outcome of the runs from a situation."""
        if start not in self.rights:
            self.rights[start] = plain_outcome(self.system, self.workflow, start)
        return self.rights[start]

    def is_target(self, state, start):
        """Tell whether a state of a run from a situation is bad: whether it has an outcome that is not correct."""
        return state[2] is None and (state[0], state[6]) != self.right_from(start)

    def is_state(self, value):
        """Tell whether any value has the form of a state of a run."""
        if not is_tuple(value, 7, 7):
            return False
        situation, remembered, at, values, saved, sent, result = value
        if not is_situation(self.system, situation) or not is_remembered(self.keyed, remembered):
            return False
        if not is_values(self.names, values) or not self.is_saved(saved):
            return False
        bare = [step for step in calls_of(self.workflow) if step not in self.keyed]
        if not is_selection(sent, bare):
            return False
        if at is None:
            return is_answer(result)
        return is_index(at, len(self.workflow)) and result is None

    def is_saved(self, value):
        """Tell whether any value is a pair of a step and values."""
        if not is_tuple(value, 2, 2):
            return False
        return is_index(value[0], len(self.workflow)) and is_values(self.names, value[1])

    def moves(self, state, faults):
        """Return the sorted list of the events that are possible in a state with a set of faults."""
        at = state[2]
        waiting = at is not None and self.workflow[at][0] == "call"
        found = []
        if waiting and "fall" in faults:
            found.append(("cut",))
        if at is not None:
            found.append(("do",))
        if at is not None and "fall" in faults:
            found.append(("fall",))
        if "late" in faults:
            found.extend([("late", step) for step in state[5]])
        if waiting and "loss" in faults:
            found.append(("lose",))
        return found

    def steps(self, state, faults):
        """Return the pairs of an event that is possible in a state with a set of faults, and the state after it."""
        return [(event, self.after(state, event)) for event in self.moves(state, faults)]

    def attempt(self, state, faults, value):
        """Return the state after any value, or None if it is not an event that is possible with a set of faults."""
        if not is_event(value) or value not in self.moves(state, faults):
            return None
        return self.after(state, value)

    def after(self, state, event):
        """Return the state after an event that is possible."""
        if event[0] == "do":
            return self.done(state)
        situation, remembered, at, values, saved, sent, result = state
        if event[0] == "late":
            situation, _ = served(self.system, situation, self.workflow[event[1]])
        elif event[0] != "fall":
            situation, remembered, sent, _ = self.requested(state)
        if event[0] in ("cut", "fall"):
            at, values = saved
        return situation, remembered, at, values, saved, sent, result

    def done(self, state):
        """Return the state after the client has executed its next step."""
        situation, remembered, at, values, saved, sent, result = state
        step = self.workflow[at]
        if step[0] == "call":
            situation, remembered, sent, answer = self.requested(state)
            values = assigned(values, step[3], answer)
            if at in self.checked:
                saved = (at + 1, values)
            at += 1
        elif step[0] == "return":
            at, result = None, dict(values)[step[1]]
        else:
            at = following(step, at, dict(values))
        return situation, remembered, at, values, saved, sent, result

    def requested(self, state):
        """Return what the request of the next step, a call step, makes of the services, and its answer."""
        situation, remembered, at, _, _, sent, _ = state
        for step, answer in remembered:
            if step == at:
                return situation, remembered, sent, answer
        situation, answer = served(self.system, situation, self.workflow[at])
        if at in self.keyed:
            remembered = tuple(sorted(remembered + ((at, answer),)))
        elif at not in sent:
            sent = tuple(sorted(sent + (at,)))
        return situation, remembered, sent, answer


def check_state(machine, state):
    """Raise InvalidState if a value does not have the form of a state of the runs of a machine."""
    if not machine.is_state(state):
        raise InvalidState("not a state of a run")


def initial_state(system, workflow, situation):
    """Return the initial state of a run from a situation."""
    check_workflow(system, workflow)
    check_situation(system, situation)
    return Machine(system, workflow, ((), ())).initial(situation)


def next_state(system, workflow, protection, state, event):
    """Return the state after an event, or None if it is not possible or not an event."""
    check_workflow(system, workflow)
    check_protection(workflow, protection)
    machine = Machine(system, workflow, protection)
    check_state(machine, state)
    return machine.attempt(state, FAULTS, event)


def possible_events(system, workflow, protection, faults, state):
    """Return the sorted list of the events that are possible in a state with a set of faults."""
    check_workflow(system, workflow)
    check_protection(workflow, protection)
    check_faults(faults)
    machine = Machine(system, workflow, protection)
    check_state(machine, state)
    return machine.moves(state, faults)


def replay(system, workflow, protection, situation, events):
    """Return the list of all states of a run, from the initial one on."""
    check_workflow(system, workflow)
    check_protection(workflow, protection)
    check_situation(system, situation)
    if not isinstance(events, (list, tuple)):
        raise InvalidEvent(None)
    machine = Machine(system, workflow, protection)
    states = [machine.initial(situation)]
    for index, event in enumerate(events):
        state = machine.attempt(states[index], FAULTS, event)
        if state is None:
            raise InvalidEvent(index)
        states.append(state)
    return states

"""The records that runs write, and the runs that explain a record."""

from retrykeys.deciding import check_decision, is_shortest, nearest_run, searches_for
from retrykeys.errors import InvalidRecord
from retrykeys.runs import Machine, replay
from retrykeys.shapes import is_answer, is_integer, is_tuple
from retrykeys.workflows import calls_of


def is_one_of(steps, value):
    """Tell whether any value is one of the steps."""
    return is_integer(value) and value in steps


def is_entry(steps, value):
    """Tell whether any value is an entry of a record, for a workflow with these call steps."""
    if not is_tuple(value, 1, 3) or not isinstance(value[0], str):
        return False
    if value[0] == "answer":
        return len(value) == 3 and is_one_of(steps, value[1]) and is_answer(value[2])
    if value[0] == "timeout":
        return len(value) == 2 and is_one_of(steps, value[1])
    if value[0] == "return":
        return len(value) == 2 and is_answer(value[1])
    return value == ("fall",)


def check_record(workflow, record):
    """Raise InvalidRecord if a value is not a list or tuple of entries."""
    if not isinstance(record, (list, tuple)):
        raise InvalidRecord("not a list or a tuple")
    steps = calls_of(workflow)
    if not all([is_entry(steps, value) for value in record]):
        raise InvalidRecord("not an entry of a record of the workflow")


def check_examination(system, workflow, protection, situations, faults, record):
    """Raise the errors of the arguments of an examination."""
    check_decision(system, workflow, protection, situations, faults)
    check_record(workflow, record)


def entry_of(workflow, state, event, reached):
    """Return the entry that an event writes, which leads from a state to another one, or None."""
    at = state[2]
    if event[0] in ("cut", "fall"):
        return ("fall",)
    if event[0] == "lose":
        return "timeout", at
    if event[0] == "do" and workflow[at][0] == "call":
        return "answer", at, dict(reached[3])[workflow[at][3]]
    if event[0] == "do" and workflow[at][0] == "return":
        return "return", reached[6]
    return None


def entries_of(workflow, states, events):
    """Return the entries that events write, for the state before the first one and the states after each of them."""
    found = [entry_of(workflow, states[at], event, states[at + 1]) for at, event in enumerate(events)]
    return [entry for entry in found if entry is not None]


def record_of(system, workflow, protection, situation, events):
    """Return the record that a run writes."""
    states = replay(system, workflow, protection, situation, events)
    return entries_of(workflow, states, events)


class Reader:
    """The runs of a machine that write no other entries than those of a record, one after the other.

    A state is a pair of a state of the machine and the number of the entries that have been written. The targets
    are the states in which all have been written.
    """

    def __init__(self, machine, entries):
        self.machine = machine
        self.entries = list(entries)

    def initial(self, situation):
        """Return the initial state from a situation."""
        return self.machine.initial(situation), 0

    def is_target(self, state, _):
        """Tell whether all entries have been written."""
        return state[1] == len(self.entries)

    def steps(self, state, faults):
        """Return the pairs of an event that is possible in a state with a set of faults, and the state after it."""
        found = []
        for event, reached in self.machine.steps(state[0], faults):
            after = self.noted(state, event, reached)
            if after is not None:
                found.append((event, after))
        return found

    def attempt(self, state, faults, value):
        """Return the state after any value, or None if it is not an event that is possible with a set of faults."""
        reached = self.machine.attempt(state[0], faults, value)
        return None if reached is None else self.noted(state, value, reached)

    def noted(self, state, event, reached):
        """Return the state after an event that leads the machine to a state, or None if it writes another entry."""
        before, count = state
        entry = entry_of(self.machine.workflow, before, event, reached)
        if entry is None:
            return reached, count
        if self.entries[count:count + 1] == [entry]:
            return reached, count + 1
        return None


class Explained:
    """A run writes the record: its situation and its events, of which there are as few as possible."""

    def __init__(self, situation, events):
        self.situation = situation
        self.events = list(events)

    def __eq__(self, other):
        if not isinstance(other, Explained):
            return False
        return self.situation == other.situation and self.events == other.events

    def is_correct(self, system, workflow, protection, situations, faults, record):
        """Return whether the current run is a correct result of `examine`."""
        check_examination(system, workflow, protection, situations, faults, record)
        reader = Reader(Machine(system, workflow, protection), record)
        return is_shortest(reader, situations, faults, self.situation, self.events)


class Unexplained:
    """No run writes the record: the index of the first entry that none writes, and the states before it."""

    def __init__(self, index, states):
        self.index = index
        self.states = [list(row) for row in states]

    def __eq__(self, other):
        return isinstance(other, Unexplained) and self.index == other.index and self.states == other.states

    def is_correct(self, system, workflow, protection, situations, faults, record):
        """Return whether the current index and lists are a correct result of `examine`."""
        check_examination(system, workflow, protection, situations, faults, record)
        machine = Machine(system, workflow, protection)
        searches = searches_for(Reader(machine, record), situations, faults)
        if nearest_run(searches) is not None:
            return False
        index, rows = farthest(searches)
        if self.index != index or len(self.states) != len(rows):
            return False
        return all([is_same(machine, states, row) for states, row in zip(self.states, rows)])


def is_same(machine, values, states):
    """Tell whether a list of any values has exactly these different states, each once."""
    if len(values) != len(states) or not all([machine.is_state(value) for value in values]):
        return False
    return set(values) == set(states)


def states_at(search, count):
    """Return the list of the states in which so many entries have been written."""
    return [state for state, many in search.before if many == count]


def farthest(searches):
    """Return the greatest number of entries that are written, and for each search the states in which they are."""
    index = max([count for search in searches for _, count in search.before])
    return index, [states_at(search, index) for search in searches]


def examine(system, workflow, protection, situations, faults, record):
    """Return an Explained or an Unexplained for a record."""
    check_examination(system, workflow, protection, situations, faults, record)
    searches = searches_for(Reader(Machine(system, workflow, protection), record), situations, faults)
    found = nearest_run(searches)
    if found is None:
        index, rows = farthest(searches)
        return Unexplained(index, rows)
    situation, events = found
    return Explained(situation, events)


def possible_situations(system, workflow, protection, situations, faults, record):
    """Return the ascending list of the situations to which the explanations of a record lead."""
    check_examination(system, workflow, protection, situations, faults, record)
    searches = searches_for(Reader(Machine(system, workflow, protection), record), situations, faults)
    for search in searches:
        search.exhaust()
    return sorted({state[0] for search in searches for state in states_at(search, len(record))})

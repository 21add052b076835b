"""Executions: runs that are built event by event, and undone."""

from retrykeys.errors import InvalidEvent
from retrykeys.records import entries_of
from retrykeys.runs import FAULTS, Machine, check_faults, check_protection
from retrykeys.services import check_situation
from retrykeys.workflows import check_workflow


class Execution:
    """A run: the events so far, with the state before the first one and the state after each of them."""

    def __init__(self, system, workflow, protection, situation):
        check_workflow(system, workflow)
        check_protection(workflow, protection)
        check_situation(system, situation)
        self.machine = Machine(system, workflow, protection)
        self.states = [self.machine.initial(situation)]
        self.events = []

    def apply(self, event):
        """Apply an event of any class, and return the state after it."""
        reached = self.machine.attempt(self.state(), FAULTS, event)
        if reached is None:
            raise InvalidEvent(len(self.events))
        self.states.append(reached)
        self.events.append(event)
        return reached

    def undo(self):
        """Take back the last event, and return it."""
        if not self.events:
            raise InvalidEvent(None)
        self.states.pop()
        return self.events.pop()

    def possible(self, faults):
        """Return the sorted list of the events that are possible now with a set of faults."""
        check_faults(faults)
        return self.machine.moves(self.state(), faults)

    def state(self):
        """Return the current state."""
        return self.states[-1]

    def history(self):
        """Return the list of all events so far."""
        return list(self.events)

    def record(self):
        """Return the record that the run has written so far."""
        return entries_of(self.machine.workflow, self.states, self.events)

    def outcome(self):
        """Return the current outcome, or None if the client has not returned."""
        state = self.state()
        return (state[0], state[6]) if state[2] is None else None

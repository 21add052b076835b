"""Executions (point 19)."""

import random
import unittest

from retrykeys.errors import InvalidEvent, InvalidFaults
from retrykeys.executions import Execution
from retrykeys.records import record_of
from retrykeys.runs import initial_state, replay
from tests import oracle, samples, wrong
from tests.samples import BRANCHES, COUNTER, INCREASE, SET_AND_INCREASE, SWITCH, WITHOUT_CALLS

DO, LOSE, CUT, FALL = ("do",), ("lose",), ("cut",), ("fall",)
ONE = (COUNTER,)
NONE = ((), ())
EVERY = ("fall", "late", "loss")


def late(step):
    return ("late", step)


class Case(unittest.TestCase):
    def refused(self, index, function, *arguments):
        """The call raises InvalidEvent with this index, and no subclass of it."""
        with self.assertRaises(InvalidEvent) as caught:
            function(*arguments)
        self.assertIs(type(caught.exception), InvalidEvent)
        self.assertEqual(caught.exception.index, index)
        self.assertIs(type(caught.exception.index), type(index))

    def told(self, execution):
        """All that an execution tells."""
        possible = [execution.possible(faults) for faults in oracle.FAULT_SETS]
        return execution.state(), execution.history(), execution.record(), execution.outcome(), possible


class ByHand(Case):
    def test_without_events(self):
        execution = Execution(ONE, SET_AND_INCREASE, ((1,), (0,)), (2,))
        self.assertEqual(execution.state(), ((2,), (), 0, (("a", 0), ("b", 0)), (0, (("a", 0), ("b", 0))), (), None))
        self.assertEqual(execution.history(), [])
        self.assertEqual(execution.record(), [])
        self.assertIsNone(execution.outcome())
        self.assertEqual(execution.possible(()), [DO])
        self.assertEqual(execution.possible(EVERY), [CUT, DO, FALL, LOSE])
        self.refused(None, execution.undo)

    def test_a_run_with_all_classes_of_faults(self):
        execution = Execution(ONE, SET_AND_INCREASE, ((1,), (0,)), (2,))
        zeros = (("a", 0), ("b", 0))
        events = [LOSE, DO, FALL, LOSE, CUT, late(0), DO, DO, late(0)]
        # The key remembers the increase to 1, also after the counter has been set to 0 late.
        states = [
            ((0,), (), 0, zeros, (0, zeros), (0,), None),
            ((0,), (), 1, zeros, (1, zeros), (0,), None),
            ((0,), (), 1, zeros, (1, zeros), (0,), None),
            ((1,), ((1, 1),), 1, zeros, (1, zeros), (0,), None),
            ((1,), ((1, 1),), 1, zeros, (1, zeros), (0,), None),
            ((0,), ((1, 1),), 1, zeros, (1, zeros), (0,), None),
            ((0,), ((1, 1),), 2, (("a", 0), ("b", 1)), (1, zeros), (0,), None),
            ((0,), ((1, 1),), None, (("a", 0), ("b", 1)), (1, zeros), (0,), 1),
            ((0,), ((1, 1),), None, (("a", 0), ("b", 1)), (1, zeros), (0,), 1),
        ]
        entries = [
            ("timeout", 0), ("answer", 0, 0), ("fall",), ("timeout", 1), ("fall",), ("answer", 1, 1), ("return", 1)]
        written = [1, 2, 3, 4, 5, 5, 6, 7, 7]
        for count, (event, state) in enumerate(zip(events, states)):
            self.assertEqual(execution.apply(event), state)
            self.assertEqual(execution.state(), state)
            self.assertEqual(execution.history(), events[:count + 1])
            self.assertEqual(execution.record(), entries[:written[count]])
            self.assertEqual(execution.outcome(), ((0,), 1) if count > 6 else None)
        for event, state in list(zip(events, [initial_state(ONE, SET_AND_INCREASE, (2,))] + states))[::-1]:
            self.assertEqual(execution.undo(), event)
            self.assertEqual(execution.state(), state)
        self.refused(None, execution.undo)

    def test_the_outcome_changes_late(self):
        execution = Execution(ONE, INCREASE, NONE, (0,))
        for event in (DO, DO):
            execution.apply(event)
        self.assertEqual(execution.outcome(), ((1,), 1))
        execution.apply(late(0))
        self.assertEqual(execution.outcome(), ((2,), 1))
        self.assertEqual(execution.record(), [("answer", 0, 1), ("return", 1)])
        self.assertEqual(execution.possible(EVERY), [late(0)])
        self.assertEqual(execution.possible(("fall", "loss")), [])
        execution.apply(late(0))
        self.assertEqual(execution.outcome(), ((0,), 1))
        for _ in range(3):
            execution.undo()
        self.assertIsNone(execution.outcome())
        self.assertEqual(execution.history(), [DO])

    def test_the_number_of_events_so_far(self):
        execution = Execution(ONE, INCREASE, ((0,), ()), (0,))
        self.refused(0, execution.apply, late(0))
        execution.apply(LOSE)
        self.refused(1, execution.apply, late(0))
        execution.apply(DO)
        self.refused(2, execution.apply, LOSE)
        self.refused(2, execution.apply, CUT)
        execution.undo()
        self.refused(1, execution.apply, late(0))
        execution.apply(DO)
        execution.apply(FALL)
        for event in (DO, DO):
            execution.apply(event)
        for event in (DO, LOSE, CUT, FALL, late(0), late(1)):
            self.refused(5, execution.apply, event)
        self.assertEqual(execution.history(), [LOSE, DO, FALL, DO, DO])

    def test_what_is_not_an_event(self):
        execution = Execution(ONE, SET_AND_INCREASE, NONE, (2,))
        execution.apply(DO)
        before = self.told(execution)
        for event in wrong.EVENTS:
            self.refused(1, execution.apply, event)
        self.assertEqual(self.told(execution), before)

    def test_a_refused_call_changes_nothing(self):
        execution = Execution(ONE, SET_AND_INCREASE, NONE, (2,))
        before = self.told(execution)
        self.refused(None, execution.undo)
        self.refused(0, execution.apply, late(0))
        for faults in wrong.FAULTS:
            with self.assertRaises(InvalidFaults):
                execution.possible(faults)
        self.assertEqual(self.told(execution), before)

    def test_falls_without_effect_are_events(self):
        execution = Execution(ONE, SET_AND_INCREASE, NONE, (2,))
        first = execution.state()
        self.assertEqual([execution.apply(FALL) for _ in range(3)], [first] * 3)
        self.assertEqual(execution.history(), [FALL] * 3)
        self.assertEqual(execution.record(), [("fall",)] * 3)
        self.assertEqual([execution.undo() for _ in range(3)], [FALL] * 3)
        self.assertEqual(execution.record(), [])

    def test_another_way_after_an_undo(self):
        execution = Execution(ONE, BRANCHES, NONE, (0,))
        for event in (LOSE, DO, DO):
            execution.apply(event)
        self.assertEqual(execution.state()[2], 4)
        for _ in range(3):
            execution.undo()
        for event in (CUT, FALL, DO):
            execution.apply(event)
        self.assertEqual(execution.history(), [CUT, FALL, DO])
        self.assertEqual(execution.record(), [("fall",), ("fall",), ("answer", 0, 0)])

    def test_without_calls(self):
        execution = Execution(ONE, WITHOUT_CALLS, NONE, (1,))
        self.assertEqual(execution.possible(EVERY), [DO, FALL])
        for event in (DO, DO, DO):
            self.assertIsNone(execution.outcome())
            execution.apply(event)
        self.assertEqual(execution.outcome(), ((1,), 0))
        self.assertEqual(execution.record(), [("return", 0)])

    def test_executions_are_independent(self):
        first, second = (Execution(ONE, SET_AND_INCREASE, NONE, (2,)) for _ in range(2))
        first.apply(LOSE)
        second.apply(DO)
        self.assertEqual((first.history(), second.history()), ([LOSE], [DO]))
        first.undo()
        self.assertEqual((first.history(), second.history()), ([], [DO]))
        self.assertFalse(first == Execution(ONE, SET_AND_INCREASE, NONE, (2,)).history())

    def test_lists_are_new(self):
        execution = Execution(ONE, SET_AND_INCREASE, NONE, (2,))
        for event in (DO, LOSE):
            execution.apply(event)
        before = self.told(execution)
        for call in (execution.history, execution.record, lambda: execution.possible(EVERY)):
            found = call()
            self.assertIs(type(found), list)
            found.clear()
        self.assertEqual(self.told(execution), before)
        kept = execution.history()
        execution.apply(DO)
        self.assertEqual(kept, [DO, LOSE])

    def test_keywords(self):
        execution = Execution(system=ONE, workflow=SET_AND_INCREASE, protection=NONE, situation=(2,))
        execution.apply(event=DO)
        self.assertEqual(execution.possible(faults=("late",)), [DO, late(0)])


class Random(Case):
    def execution(self, seed):
        rng = random.Random(seed)
        system, workflow, protection, situations, _ = samples.random_case(seed, 4, 1)
        return rng, (system, workflow, protection, situations[0]), Execution(system, workflow, protection, situations[0])

    def agree(self, case, execution, events):
        """An execution tells what the oracle makes of the events from the start."""
        states = oracle.follow(*case, events)
        state = states[-1]
        possible = [sorted(oracle.moves(*case[:3], faults, state)) for faults in oracle.FAULT_SETS]
        outcome = None if state[2] is not None else (state[0], state[6])
        self.assertEqual(self.told(execution), (state, events, oracle.record(*case, events), outcome, possible))

    def test_events_and_undone_ones(self):
        returned, refused = 0, 0
        for seed in range(40000, 40200):
            rng, case, execution = self.execution(seed)
            events = []
            for _ in range(rng.randrange(30)):
                choice = rng.choice([DO] * 6 + oracle.EVENTS[:6] + [None, None])
                if choice is None and events:
                    self.assertEqual(execution.undo(), events.pop())
                elif choice is None:
                    self.refused(None, execution.undo)
                elif oracle.follow(*case, events + [choice]) is None:
                    self.refused(len(events), execution.apply, choice)
                    refused += 1
                else:
                    events.append(choice)
                    self.assertEqual(execution.apply(choice), oracle.follow(*case, events)[-1])
                self.agree(case, execution, events)
            returned += execution.outcome() is not None
        self.assertGreater(returned, 40)
        self.assertGreater(refused, 100)

    def test_it_agrees_with_replay_and_record_of(self):
        for seed in range(41000, 41200):
            rng, case, execution = self.execution(seed)
            for _ in range(20):
                choices = execution.possible(EVERY)
                if choices:
                    execution.apply(rng.choice(choices))
            events = execution.history()
            self.assertEqual(replay(*case, events)[-1], execution.state())
            self.assertEqual(record_of(*case, events), execution.record())

    def test_a_long_run(self):
        execution = Execution((COUNTER, SWITCH), (("call", 1, 2, "a"), ("return", "a")), NONE, (0, 0))
        for _ in range(1001):
            execution.apply(LOSE)
        self.assertEqual(execution.state()[0], (0, 1))
        self.assertEqual(execution.record(), [("timeout", 0)] * 1001)
        for _ in range(1001):
            execution.undo()
        self.assertEqual(execution.state(), initial_state((COUNTER, SWITCH), (("call", 1, 2, "a"), ("return", "a")), (0, 0)))


if __name__ == "__main__":
    unittest.main()

"""Records of runs (point 17), their explanations and possible situations (point 18)."""

import random
import unittest

from retrykeys.errors import InvalidEvent
from retrykeys.records import Explained, Unexplained, examine, possible_situations, record_of
from retrykeys.runs import possible_events, replay
from tests import oracle, samples, wrong
from tests.samples import (
    BRANCHES, COUNTER, INCREASE, READ_AND_INCREASE, SET_AND_INCREASE, SWITCH, TRIVIAL, WITHOUT_CALLS,
)

DO, LOSE, CUT, FALL = ("do",), ("lose",), ("cut",), ("fall",)
FELL = ("fall",)
ONE = (COUNTER,)
NONE = ((), ())
EVERY = ("fall", "late", "loss")


def late(step):
    return ("late", step)


class RecordOf(unittest.TestCase):
    """Point 17."""

    def written(self, events, workflow=SET_AND_INCREASE, protection=NONE, situation=(2,)):
        return record_of(ONE, workflow, protection, situation, events)

    def test_what_each_event_writes(self):
        self.assertEqual(self.written([]), [])
        self.assertEqual(self.written([DO, DO, DO]), [("answer", 0, 0), ("answer", 1, 1), ("return", 1)])
        self.assertEqual(self.written([LOSE]), [("timeout", 0)])
        self.assertEqual(self.written([DO, LOSE, LOSE]), [("answer", 0, 0), ("timeout", 1), ("timeout", 1)])
        self.assertEqual(self.written([CUT]), [FELL])
        self.assertEqual(self.written([FALL]), [FELL])
        self.assertEqual(self.written([DO, late(0), DO, late(1), DO, late(0)]),
                         [("answer", 0, 0), ("answer", 1, 1), ("return", 1)])
        self.assertEqual(self.written((DO, late(0), late(0), FALL, DO)), [("answer", 0, 0), FELL, ("answer", 0, 0)])

    def test_branches_write_nothing(self):
        found = self.written([DO, DO, DO, DO], BRANCHES, NONE, (0,))
        self.assertEqual(found, [("answer", 0, 0), ("answer", 4, 1), ("return", 1)])
        found = self.written([DO, DO, FALL, DO, DO, LOSE, DO, DO, DO], BRANCHES, NONE, (1,))
        self.assertEqual(found, [
            ("answer", 0, 1), FELL, ("answer", 0, 1), ("timeout", 2), ("answer", 2, 0), ("return", 0)])
        self.assertEqual(self.written([DO, DO, DO], WITHOUT_CALLS, NONE, (1,)), [("return", 0)])

    def test_an_answer_is_the_received_one(self):
        # A remembered answer, and a late increase that the client does not see.
        found = self.written([DO, LOSE, LOSE, CUT, DO, DO, DO], SET_AND_INCREASE, ((1,), ()))
        self.assertEqual(found, [
            ("answer", 0, 0), ("timeout", 1), ("timeout", 1), FELL, ("answer", 0, 0), ("answer", 1, 1), ("return", 1)])
        found = self.written([LOSE, late(0), DO, DO], INCREASE, NONE, (0,))
        self.assertEqual(found, [("timeout", 0), ("answer", 0, 0), ("return", 0)])
        # The answer, and not the value that is returned.
        workflow = (("call", 0, 2, "a"), ("return", "b"))
        self.assertEqual(self.written([DO, DO], workflow), [("answer", 0, 2), ("return", 0)])

    def test_after_a_checkpoint(self):
        found = self.written([DO, FALL, CUT, DO, DO], SET_AND_INCREASE, ((), (0,)))
        self.assertEqual(found, [("answer", 0, 0), FELL, FELL, ("answer", 1, 2), ("return", 2)])

    def test_impossible_events(self):
        for events, index in [([DO, late(1)], 1), ([None], 0), ([DO, DO, LOSE], 2), (None, None), ([DO] * 4, 3)]:
            with self.assertRaises(InvalidEvent) as caught:
                self.written(events)
            self.assertEqual(caught.exception.index, index)

    def test_random_runs(self):
        rng = random.Random(17)
        for seed in range(30000, 30400):
            system, workflow, protection, situations, _ = samples.random_case(seed, 4, 1)
            events = random_events(rng, system, workflow, protection, situations[0], EVERY, 12)
            expected = oracle.record(system, workflow, protection, situations[0], events)
            self.assertEqual(record_of(system, workflow, protection, situations[0], events), expected)


def random_events(rng, system, workflow, protection, situation, faults, most):
    """The events of a possible run."""
    events = []
    for _ in range(rng.randint(0, most)):
        state = replay(system, workflow, protection, situation, events)[-1]
        choices = possible_events(system, workflow, protection, faults, state)
        if choices:
            events.append(rng.choice(choices + [DO] * (DO in choices)))
    return events


class ByHand(unittest.TestCase):
    """Point 18."""

    def explained(self, case, length, situations):
        """The record has a shortest explanation of this length, and these possible situations."""
        found = examine(*case)
        self.assertIs(type(found), Explained)
        self.assertEqual(len(found.events), length)
        self.assertTrue(found.is_correct(*case))
        system, workflow, protection, _, faults, record = case
        self.assertTrue(oracle.explains(system, workflow, protection, found.situation, found.events, faults, record))
        self.assertEqual(possible_situations(*case), situations)
        return found

    def unexplained(self, case, index, sizes):
        found = examine(*case)
        self.assertIs(type(found), Unexplained)
        self.assertEqual(found.index, index)
        self.assertEqual([len(states) for states in found.states], sizes)
        self.assertTrue(found.is_correct(*case))
        self.assertEqual(possible_situations(*case), [])
        return found

    def test_an_empty_record(self):
        for record in ([], ()):
            found = self.explained((ONE, SET_AND_INCREASE, NONE, [(2,), (0,)], EVERY, record), 0, [(0,), (2,)])
            self.assertEqual(found.events, [])
        # Without an entry, the client may be behind an `if`.
        self.explained((ONE, WITHOUT_CALLS, NONE, [(1,)], EVERY, []), 0, [(1,)])

    def test_a_run_without_faults(self):
        record = [("answer", 0, 0), ("answer", 1, 1), ("return", 1)]
        for faults in oracle.FAULT_SETS:
            case = (ONE, SET_AND_INCREASE, NONE, [(2,), (0,)], faults, record)
            self.assertEqual(self.explained(case, 3, [(1,)] if "late" not in faults else [(0,), (1,), (2,)]).events,
                             [DO, DO, DO])

    def test_late_events_after_the_record(self):
        record = [("answer", 0, 1), ("return", 1)]
        case = (ONE, INCREASE, NONE, [(0,)], ("late",), record)
        self.explained(case, 2, [(0,), (1,), (2,)])
        self.explained((ONE, INCREASE, ((0,), ()), [(0,)], ("late",), record), 2, [(1,)])

    def test_a_late_event_is_needed(self):
        # Increased to 1 and late to 2; the next answer is 0.
        record = [("timeout", 0), ("answer", 0, 0)]
        case = (ONE, INCREASE, NONE, [(0,)], ("late", "loss"), record)
        self.assertEqual(self.explained(case, 3, [(0,), (1,), (2,)]).events, [LOSE, late(0), DO])
        found = self.unexplained((ONE, INCREASE, NONE, [(0,)], ("loss",), record), 1, [1])
        self.assertEqual(found.states, [[replay(ONE, INCREASE, NONE, (0,), [LOSE])[-1]]])
        self.unexplained((ONE, INCREASE, ((0,), ()), [(0,)], EVERY, record), 1, [1])

    def test_cut_or_fall(self):
        # A cut has increased, a fall has not: the answer tells.
        record = [FELL, ("answer", 0, 1)]
        found = self.explained((ONE, INCREASE, NONE, [(0,)], ("fall",), record), 2, [(1,)])
        self.assertEqual(found.events, [FALL, DO])
        record = [FELL, ("answer", 0, 2)]
        found = self.explained((ONE, INCREASE, NONE, [(0,)], ("fall",), record), 2, [(2,)])
        self.assertEqual(found.events, [CUT, DO])
        record = [FELL]
        self.explained((ONE, INCREASE, NONE, [(0,)], ("fall",), record), 1, [(0,), (1,)])
        self.unexplained((ONE, INCREASE, NONE, [(0,)], ("late", "loss"), record), 0, [1])

    def test_silent_steps_count_as_events(self):
        record = [("answer", 0, 0), ("answer", 4, 1), ("return", 1)]
        found = self.explained((ONE, BRANCHES, NONE, [(0,)], ("fall",), record), 4, [(1,)])
        self.assertEqual(found.events, [DO, DO, DO, DO])
        # The shorter way: a fall instead of the steps that lead there and back.
        record = [("answer", 0, 1), ("timeout", 2), FELL]
        self.explained((ONE, BRANCHES, NONE, [(1,)], ("fall", "loss"), record), 4, [(0,)])

    def test_the_fewest_events_over_all_situations(self):
        # From 2, both branches are shorter.
        workflow = (("call", 0, 2, "a"), ("if", "a", 2, 4), ("go", 3), ("go", 4), ("call", 0, 1, "b"), ("return", "z"))
        record = [FELL]
        self.explained((ONE, workflow, NONE, [(0,), (2,)], ("fall",), record), 1, [(0,), (2,)])
        silent = (("call", 0, 0, "a"), ("if", "b", 0, 2), ("call", 0, 1, "b"), ("return", "b"))
        record = [("answer", 0, 0), ("answer", 2, 2)]
        for situations in ([(0,), (2,)], [(2,), (0,)]):
            case = (ONE, silent, NONE, situations, ("late", "loss"), record)
            self.unexplained(case, 1, [2, 2])
        # Increased late: from 0 twice, from 1 once, and from 2 it takes three times.
        record = [("answer", 0, 1), ("answer", 1, 0)]
        workflow = (("call", 0, 1, "a"), ("call", 0, 1, "b"), ("return", "b"))
        self.explained((ONE, workflow, NONE, [(0,)], ("late",), record), 3, [(0,), (1,), (2,)])
        record = [("timeout", 0), ("answer", 0, 0)]
        for situations, length in [([(0,)], 3), ([(1,)], 2), ([(2,)], 4), ([(0,), (2,)], 3), ([(2,), (0,), (1,)], 2)]:
            found = self.explained(
                (ONE, workflow, NONE, situations, ("late", "loss"), record), length, [(0,), (1,), (2,)])
            self.assertEqual(found.situation, {2: (1,), 3: (0,), 4: (2,)}[length])

    def test_the_index_over_several_situations(self):
        # From 0 the first entry is explained, from 1 none is, and from 2 both are.
        workflow = (("call", 0, 2, "a"), ("call", 0, 1, "b"), ("return", "b"))
        record = [("answer", 0, 0), ("answer", 1, 2)]
        found = self.unexplained((ONE, workflow, NONE, [(0,), (1,)], (), record), 1, [1, 0])
        self.assertEqual(found.states, [[replay(ONE, workflow, NONE, (0,), [DO])[-1]], []])
        found = self.unexplained((ONE, workflow, NONE, [(1,), (0,)], (), record), 1, [0, 1])
        record = [("answer", 0, 2), ("answer", 1, 0)]
        self.unexplained((ONE, workflow, NONE, [(0,), (1,)], (), record), 0, [1, 1])
        self.explained((ONE, workflow, NONE, [(0,), (1,), (2,)], (), record), 2, [(0,)])
        # All situations explain the same number of entries.
        record = [("timeout", 0), ("timeout", 0), ("timeout", 1)]
        self.unexplained((ONE, workflow, NONE, [(0,), (1,)], ("loss",), record), 2, [1, 1])
        self.unexplained((ONE, workflow, ((0,), ()), [(0,), (1,)], ("loss",), record), 2, [1, 1])

    def test_the_index_of_the_last_entry(self):
        record = [("answer", 0, 0), ("answer", 1, 1), ("return", 2)]
        self.unexplained((ONE, SET_AND_INCREASE, NONE, [(2,)], (), record), 2, [1])
        self.unexplained((ONE, SET_AND_INCREASE, NONE, [(2,)], ("late",), record), 2, [3])
        record = [("answer", 0, 0), ("answer", 1, 1), ("return", 1), FELL]
        found = self.unexplained((ONE, SET_AND_INCREASE, NONE, [(2,)], EVERY, record), 3, [3])
        self.assertEqual({(state[2], state[6]) for state in found.states[0]}, {(None, 1)})

    def test_states_behind_silent_events(self):
        # In front of the `if`, behind it, and behind the `go`.
        record = [("answer", 0, 1), ("answer", 2, 1)]
        found = self.unexplained((ONE, BRANCHES, NONE, [(1,)], (), record), 1, [2])
        self.assertEqual(sorted(state[2] for state in found.states[0]), [1, 2])
        found = self.unexplained((ONE, WITHOUT_CALLS, NONE, [(1,)], EVERY, [FELL, FELL, ("return", 1)]), 2, [3])
        self.assertEqual(sorted(state[2] for state in found.states[0]), [0, 2, 4])

    def test_faults_that_are_not_in_the_set_explain_nothing(self):
        for entry, fault in [(FELL, "fall"), (("timeout", 0), "loss")]:
            for faults in oracle.FAULT_SETS:
                case = (ONE, SET_AND_INCREASE, NONE, [(2,)], faults, [entry])
                if fault in faults:
                    self.assertIs(type(examine(*case)), Explained)
                else:
                    self.unexplained(case, 0, [1])

    def test_four_calls(self):
        workflow = (("call", 0, 1, "a"),) * 4 + (("return", "a"),)
        record = [("answer", 0, 1), ("answer", 1, 2), ("answer", 2, 0), ("answer", 3, 1), ("return", 1)]
        self.explained((ONE, workflow, NONE, [(0,), (1,)], ("fall",), record), 5, [(1,)])
        self.explained((ONE, workflow, NONE, [(0,), (1,)], ("late",), record), 5, [(0,), (1,), (2,)])

    def test_situations_are_sorted(self):
        system = (TRIVIAL, SWITCH)
        workflow = (("call", 1, 2, "a"), ("return", "a"))
        for situations in ([(0, 0), (0, 1)], [(0, 1), (0, 0)]):
            found = possible_situations(system, workflow, NONE, situations, (), [])
            self.assertEqual(found, [(0, 0), (0, 1)])
            found = possible_situations(system, workflow, NONE, situations, ("fall",), [FELL])
            self.assertEqual(found, [(0, 0), (0, 1)])
            record = [("timeout", 0), ("answer", 0, 1)]
            found = possible_situations(system, workflow, NONE, situations, ("loss",), record)
            self.assertEqual(found, [(0, 1)])

    def test_explanations_that_are_not_the_shortest(self):
        record = [("timeout", 0), ("answer", 0, 0)]
        workflow = (("call", 0, 1, "a"), ("call", 0, 1, "b"), ("return", "b"))
        case = (ONE, workflow, NONE, [(0,), (2,)], ("late", "loss"), record)
        self.assertTrue(Explained((0,), [LOSE, late(0), DO]).is_correct(*case))
        self.assertFalse(Explained((2,), [LOSE, late(0), late(0), DO]).is_correct(*case))
        self.assertTrue(Explained((2,), [LOSE, late(0), late(0), DO]).is_correct(*case[:3], [(2,)], *case[4:]))
        self.assertFalse(Explained((0,), [LOSE, late(0), DO, late(0)]).is_correct(*case))
        # Others that are no explanations.
        self.assertFalse(Explained((1,), [LOSE, DO]).is_correct(*case))
        self.assertFalse(Explained((0,), [LOSE, DO]).is_correct(*case))
        self.assertFalse(Explained((0,), [LOSE]).is_correct(*case))
        self.assertFalse(Explained((0,), [LOSE, late(0), late(0)]).is_correct(*case))
        self.assertFalse(Explained((0,), [LOSE, late(0), DO, DO]).is_correct(*case))
        self.assertFalse(Explained((0,), [late(0), LOSE, DO]).is_correct(*case))
        self.assertFalse(Explained((0,), [LOSE, late(0), DO]).is_correct(*case[:4], ("loss",), record))
        self.assertFalse(Explained((0,), []).is_correct(*case))
        self.assertTrue(Explained((0,), []).is_correct(*case[:5], []))
        self.assertFalse(Explained((1,), []).is_correct(*case[:5], []))

    def test_states_of_records_without_explanation(self):
        record = [("timeout", 0), ("answer", 0, 0)]
        case = (ONE, INCREASE, NONE, [(0,), (2,)], ("fall", "loss"), record)
        states = replay(ONE, INCREASE, NONE, (0,), [LOSE])
        self.assertEqual(self.unexplained(case, 1, [1, 1]).index, 1)
        found = examine(*case)
        other = found.states[1]
        self.assertTrue(Unexplained(1, [[states[1]], other]).is_correct(*case))
        self.assertFalse(Unexplained(1, [[states[1]], other, []]).is_correct(*case))
        self.assertFalse(Unexplained(1, [[states[1]]]).is_correct(*case))
        self.assertFalse(Unexplained(1, [other, [states[1]]]).is_correct(*case))
        self.assertFalse(Unexplained(1, [[states[1]] * 2, other]).is_correct(*case))
        self.assertFalse(Unexplained(1, [[], other]).is_correct(*case))
        self.assertFalse(Unexplained(1, [[states[0]], other]).is_correct(*case))
        self.assertFalse(Unexplained(1, [[states[1], states[0]], other]).is_correct(*case))
        self.assertFalse(Unexplained(0, [[states[1]], other]).is_correct(*case))
        self.assertFalse(Unexplained(2, [[], []]).is_correct(*case))
        self.assertFalse(Unexplained(-1, [[states[1]], other]).is_correct(*case))
        self.assertFalse(Unexplained(0, [[states[0]], replay(ONE, INCREASE, NONE, (2,), [])]).is_correct(*case))
        # A record with an explanation has no such lists, neither behind its last entry nor before.
        explained = case[:5] + ([("timeout", 0)],)
        self.assertFalse(Unexplained(1, [[states[1]], other]).is_correct(*explained))
        self.assertFalse(Unexplained(0, [[states[0]], replay(ONE, INCREASE, NONE, (2,), [])]).is_correct(*explained))


class Against(unittest.TestCase):
    """Random records, against the marking of the oracle."""

    def random_case(self, seed, most_calls, most_situations):
        """A record of a run, perhaps changed, or random entries."""
        rng = random.Random(seed)
        case = samples.random_case(seed, most_calls, most_situations, 6)
        system, workflow, protection, situations, faults = case
        classes = rng.choice([faults, faults, EVERY])
        events = random_events(rng, system, workflow, protection, rng.choice(situations), classes, 10)
        record = self.record_of_any(case, events)
        kind = rng.randrange(8)
        at = rng.randrange(len(record) + 1)
        if kind == 0:
            record[at:at + 1] = []
        elif kind == 1:
            record[at:at] = [self.random_entry(rng, workflow)]
        elif kind == 2:
            record[at:at + 1] = [self.random_entry(rng, workflow)]
        elif kind == 3:
            record = [self.random_entry(rng, workflow) for _ in range(rng.randint(1, 3))]
        return (*case, record)

    def record_of_any(self, case, events):
        """The record of the events from the first situation from which they are possible."""
        system, workflow, protection, situations, _ = case
        for situation in situations:
            if oracle.follow(system, workflow, protection, situation, events) is not None:
                return oracle.record(system, workflow, protection, situation, events)
        return []

    def random_entry(self, rng, workflow):
        steps = oracle.calls(workflow)
        entries = [FELL, ("return", rng.randrange(3))]
        if steps:
            entries += [("answer", rng.choice(steps), rng.randrange(3)), ("timeout", rng.choice(steps))]
        return rng.choice(entries)

    def check(self, case):
        system, workflow, protection, situations, faults, record = case
        fewest, index, states = oracle.examination(*case)
        found = examine(*case)
        self.assertTrue(found.is_correct(*case), case)
        if fewest is None:
            self.assertIs(type(found), Unexplained, case)
            self.assertEqual(found.index, index, case)
            self.assertEqual([set(row) for row in found.states], states, case)
            self.assertEqual([len(row) for row in found.states], [len(row) for row in states])
            self.assertEqual(possible_situations(*case), [])
            return "unexplained"
        self.assertIs(type(found), Explained, case)
        self.assertEqual(index, len(record))
        self.assertIn(found.situation, situations)
        self.assertEqual(len(found.events), fewest, case)
        self.assertTrue(oracle.explains(
            system, workflow, protection, found.situation, found.events, faults, record), case)
        self.assertEqual(possible_situations(*case), sorted({state[0] for row in states for state in row}), case)
        return "explained"

    def test_random(self):
        kinds = [self.check(self.random_case(seed, 3, 3)) for seed in range(31000, 31700)]
        self.assertGreater(kinds.count("explained"), 150)
        self.assertGreater(kinds.count("unexplained"), 150)

    def test_four_calls(self):
        for seed in range(32000, 32100):
            self.check(self.random_case(seed, 4, 2))

    def test_the_record_of_a_run_is_explained(self):
        rng = random.Random(18)
        shorter = 0
        for seed in range(33000, 33300):
            system, workflow, protection, situations, faults = samples.random_case(seed, 4, 3)
            situation = rng.choice(situations)
            events = random_events(rng, system, workflow, protection, situation, faults, 12)
            record = record_of(system, workflow, protection, situation, events)
            found = examine(system, workflow, protection, situations, faults, record)
            self.assertIs(type(found), Explained)
            self.assertLessEqual(len(found.events), len(events))
            shorter += len(found.events) < len(events)
            last = replay(system, workflow, protection, situation, events)[-1]
            self.assertIn(last[0], possible_situations(system, workflow, protection, situations, faults, record))
            right = Explained(situation, events).is_correct(system, workflow, protection, situations, faults, record)
            self.assertIs(right, len(found.events) == len(events))
        self.assertGreater(shorter, 30)

    def test_changed_runs(self):
        rng = random.Random(181)
        verdicts = []
        for seed in range(34000, 34400):
            case = self.random_case(seed, 3, 2)
            system, workflow, protection, situations, faults, record = case
            found = examine(*case)
            if type(found) is Unexplained:
                self.assertIs(Explained(situations[0], []).is_correct(*case), False)
                continue
            length = oracle.examination(*case)[0]
            for _ in range(6):
                situation, events = found.situation, list(found.events)
                kind, at = rng.randrange(5), rng.randrange(len(events) + 1)
                if kind == 0:
                    events[at:at + 1] = []
                elif kind == 1:
                    events.insert(at, rng.choice(oracle.EVENTS[:7]))
                elif kind == 2:
                    events[at:at + 1] = [rng.choice(oracle.EVENTS[:7])]
                elif kind == 3:
                    situation = samples.random_situations(rng, system, 1)[0]
                else:
                    rng.shuffle(events)
                expected = (situation in situations and len(events) == length and oracle.explains(
                    system, workflow, protection, situation, events, faults, record))
                self.assertIs(Explained(situation, events).is_correct(*case), expected, (case, situation, events))
                verdicts.append(expected)
        self.assertGreater(verdicts.count(True), 100)
        self.assertGreater(verdicts.count(False), 100)

    def test_changed_lists(self):
        rng = random.Random(182)
        verdicts = []
        for seed in range(35000, 35400):
            case = self.random_case(seed, 3, 2)
            system, workflow, protection, situations, faults, record = case
            fewest, right, states = oracle.examination(*case)
            found = examine(*case)
            if type(found) is Explained:
                index, rows = len(record), [sorted(row, key=repr) for row in states]
                self.assertIs(Unexplained(index, rows).is_correct(*case), False)
                continue
            for _ in range(6):
                index, rows = found.index, [list(row) for row in found.states]
                row = rng.choice([row for row in rows if row])
                kind = rng.randrange(8)
                if kind == 0:
                    del row[rng.randrange(len(row))]
                elif kind == 1:
                    row.append(rng.choice(row))
                elif kind == 2:
                    row.append(samples.random_state(rng, system, workflow, protection))
                elif kind == 3:
                    row[rng.randrange(len(row))] = samples.random_state(rng, system, workflow, protection)
                elif kind == 4:
                    rng.shuffle(row)
                elif kind == 5:
                    index += rng.choice([-1, 1])
                elif kind == 6:
                    rows.reverse()
                else:
                    rng.choice([rows.pop, row.reverse, lambda: rows.append([])])()
                expected = index == right and len(rows) == len(states) and all(
                    len(row) == len(known) and set(row) == known for row, known in zip(rows, states))
                self.assertIs(Unexplained(index, rows).is_correct(*case), expected, (case, index, rows))
                verdicts.append(expected)
        self.assertGreater(verdicts.count(True), 100)
        self.assertGreater(verdicts.count(False), 100)


class Forms(unittest.TestCase):
    def test_events_of_any_form(self):
        record = [("timeout", 0), ("answer", 0, 0)]
        case = (ONE, INCREASE, NONE, [(0,)], ("late", "loss"), record)
        good = [LOSE, late(0), DO]
        self.assertTrue(Explained((0,), good).is_correct(*case))
        for event in wrong.EVENTS + [("late", False), ("late", True), FALL, CUT, late(1)]:
            for at in range(3):
                events = list(good)
                events[at] = event
                self.assertIs(Explained((0,), events).is_correct(*case), False, event)
            self.assertIs(Explained((0,), good + [event]).is_correct(*case), False, event)

    def test_values_that_are_not_states(self):
        # From (0,) nothing has been written, and from (2,) neither.
        case = (ONE, SET_AND_INCREASE, ((1,), (0,)), [(2,), (0,)], ("late",), [("return", 0)])
        found = examine(*case)
        self.assertEqual((found.index, [len(row) for row in found.states]), (0, [1, 1]))
        good = found.states[0][0]
        others = [1.5, float("nan"), wrong.replaced(good, 2, 0.0), wrong.replaced(good, 2, False)]
        for value in wrong.states(good) + others:
            for rows in ([[value], found.states[1]], [[good, value], found.states[1]], [found.states[0], [value]]):
                self.assertIs(Unexplained(0, rows).is_correct(*case), False, value)

    def test_current_fields(self):
        case = (ONE, INCREASE, NONE, [(0,), (1,)], ("late", "loss"), [("timeout", 0), ("answer", 0, 0)])
        found = examine(*case)
        self.assertEqual((found.situation, found.events), ((1,), [LOSE, DO]))
        found.events.append(late(0))
        self.assertFalse(found.is_correct(*case))
        found.events.pop()
        self.assertTrue(found.is_correct(*case))
        found.situation = (0,)
        self.assertFalse(found.is_correct(*case))
        case = case[:4] + ((), case[5])
        found = examine(*case)
        found.index = 1
        self.assertFalse(found.is_correct(*case))
        found.index = 0
        self.assertTrue(found.is_correct(*case))
        found.states[1].append(found.states[0][0])
        self.assertFalse(found.is_correct(*case))
        found.states[1].pop()
        self.assertTrue(found.is_correct(*case))
        found.states = []
        self.assertFalse(found.is_correct(*case))

    def test_entries_of_the_document_are_equal_to_written_ones(self):
        # The record may be a tuple.
        case = (ONE, READ_AND_INCREASE, NONE, [(2,)], (), (("answer", 0, 2), ("answer", 1, 0), ("return", 2)))
        self.assertEqual(examine(*case), Explained((2,), [DO, DO, DO]))
        self.assertTrue(Explained((2,), [DO, DO, DO]).is_correct(*case))
        self.assertEqual(possible_situations(*case), [(0,)])
        case = case[:5] + (case[5] + (FELL,),)
        self.assertEqual(examine(*case), Unexplained(3, [[replay(*case[:3], (2,), [DO] * 3)[-1]]]))


if __name__ == "__main__":
    unittest.main()

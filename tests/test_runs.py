"""Protections, states and events of runs (points 5 to 7)."""

import random
import unittest

from retrykeys.errors import InvalidEvent
from retrykeys.runs import initial_state, next_state, possible_events, replay
from retrykeys.workflows import plain
from tests import oracle, samples, wrong
from tests.samples import COUNTER, READ_AND_INCREASE, SET_AND_INCREASE, SWITCH, WITHOUT_CALLS

DO, LOSE, CUT, FALL = ("do",), ("lose",), ("cut",), ("fall",)
ONE = (COUNTER,)


def a_b(a, b):
    return (("a", a), ("b", b))


class ByHand(unittest.TestCase):
    def test_initial_state(self):
        self.assertEqual(initial_state(ONE, SET_AND_INCREASE, (2,)), ((2,), (), 0, a_b(0, 0), (0, a_b(0, 0)), (), None))
        zeros = (("a", 0), ("b", 0))
        self.assertEqual(initial_state(ONE, WITHOUT_CALLS, (1,)), ((1,), (), 0, zeros, (0, zeros), (), None))
        self.assertEqual(initial_state((COUNTER, SWITCH), (("return", "zz"),), (1, 0))[0], (1, 0))

    def test_names_are_sorted_and_from_all_steps(self):
        workflow = (("if", "m", 0, 2), ("return", "b"), ("call", 0, 0, "z"), ("call", 0, 1, "ab"), ("return", "a"))
        names = tuple(name for name, _ in initial_state(ONE, workflow, (0,))[3])
        self.assertEqual(names, ("a", "ab", "b", "m", "z"))

    def test_a_plain_run(self):
        states = replay(ONE, SET_AND_INCREASE, ((), ()), (2,), [DO, DO, DO])
        saved = (0, a_b(0, 0))
        self.assertEqual(states, [
            ((2,), (), 0, a_b(0, 0), saved, (), None),
            ((0,), (), 1, a_b(0, 0), saved, (0,), None),
            ((1,), (), 2, a_b(0, 1), saved, (0, 1), None),
            ((1,), (), None, a_b(0, 1), saved, (0, 1), 1),
        ])

    def test_keys_remember_and_are_not_sent(self):
        states = replay(ONE, SET_AND_INCREASE, ((1,), ()), (2,), [DO, LOSE, LOSE, DO, DO])
        self.assertEqual([state[0] for state in states], [(2,), (0,), (1,), (1,), (1,), (1,)])
        self.assertEqual([state[1] for state in states], [(), (), ((1, 1),), ((1, 1),), ((1, 1),), ((1, 1),)])
        self.assertEqual([state[5] for state in states], [(), (0,), (0,), (0,), (0,), (0,)])
        self.assertEqual(states[-1][6], 1)

    def test_keys_remember_after_a_fall(self):
        # Setting again brings the counter back to 0, and the remembered answer is still 1.
        states = replay(ONE, SET_AND_INCREASE, ((1,), ()), (2,), [DO, CUT, DO, DO, DO])
        self.assertEqual(states[2], ((1,), ((1, 1),), 0, a_b(0, 0), (0, a_b(0, 0)), (0,), None))
        self.assertEqual(states[-1], ((0,), ((1, 1),), None, a_b(0, 1), (0, a_b(0, 0)), (0,), 1))

    def test_a_lost_answer_is_not_assigned(self):
        states = replay(ONE, READ_AND_INCREASE, ((), (0, 1)), (2,), [LOSE, DO, LOSE])
        start = (0, a_b(0, 0))
        self.assertEqual(states[1], ((2,), (), 0, a_b(0, 0), start, (0,), None))
        self.assertEqual(states[2], ((2,), (), 1, a_b(2, 0), (1, a_b(2, 0)), (0,), None))
        self.assertEqual(states[3], ((0,), (), 1, a_b(2, 0), (1, a_b(2, 0)), (0, 1), None))

    def test_a_cut_saves_nothing(self):
        states = replay(ONE, READ_AND_INCREASE, ((), (0, 1)), (2,), [DO, CUT])
        self.assertEqual(states[2], ((0,), (), 1, a_b(2, 0), (1, a_b(2, 0)), (0, 1), None))
        states = replay(ONE, READ_AND_INCREASE, ((), (1,)), (2,), [DO, CUT])
        self.assertEqual(states[2], ((0,), (), 0, a_b(0, 0), (0, a_b(0, 0)), (0, 1), None))

    def test_a_checkpoint_contains_the_answer(self):
        states = replay(ONE, SET_AND_INCREASE, ((), (1,)), (2,), [DO, DO, FALL, FALL, DO])
        self.assertEqual(states[2][4], (2, a_b(0, 1)))
        self.assertEqual(states[3], states[2])
        self.assertEqual(states[4], states[2])
        self.assertEqual(states[5][6], 1)

    def test_a_remembered_answer_is_saved(self):
        states = replay(ONE, SET_AND_INCREASE, ((0, 1), (1,)), (2,), [DO, LOSE, DO])
        self.assertEqual(states[3], ((1,), ((0, 0), (1, 1)), 2, a_b(0, 1), (2, a_b(0, 1)), (), None))

    def test_the_latest_checkpoint_counts(self):
        three = (("call", 0, 1, "a"), ("call", 0, 1, "a"), ("call", 0, 1, "a"), ("return", "a"))
        states = replay(ONE, three, ((), (0, 1)), (0,), [DO, DO, DO, FALL, DO])
        self.assertEqual([state[4] for state in states],
                         [(0, (("a", 0),)), (1, (("a", 1),)), (2, (("a", 2),)), (2, (("a", 2),)), (2, (("a", 2),)),
                          (2, (("a", 2),))])
        self.assertEqual(states[4][2:4], (2, (("a", 2),)))
        self.assertEqual(states[5][2:4], (3, (("a", 1),)))

    def test_late_requests_of_each_step(self):
        three = (("call", 0, 1, "a"), ("call", 1, 2, "b"), ("call", 0, 0, "c"), ("return", "b"))
        system = (COUNTER, SWITCH)
        state = replay(system, three, ((), ()), (0, 0), [DO, DO, DO])[-1]
        self.assertEqual(state[0], (0, 1))
        results = {0: (1, 1), 1: (0, 0), 2: (0, 1)}
        for step, situation in results.items():
            after = next_state(system, three, ((), ()), state, ("late", step))
            self.assertEqual(after, (situation,) + state[1:])
        for step in (3, 4, 9):
            self.assertIsNone(next_state(system, three, ((), ()), state, ("late", step)))

    def test_late_requests_after_the_return(self):
        states = replay(ONE, SET_AND_INCREASE, ((1,), ()), (2,), [DO, DO, DO, ("late", 0), ("late", 0)])
        self.assertEqual(states[4], ((0,),) + states[3][1:])
        self.assertEqual(states[5], states[4])
        self.assertEqual(possible_events(ONE, SET_AND_INCREASE, ((1,), ()), ("fall", "late", "loss"), states[5]),
                         [("late", 0)])

    def test_late_before_the_answer(self):
        # The request of a lost answer may come late before the client repeats it.
        states = replay(ONE, SET_AND_INCREASE, ((), ()), (0,), [DO, LOSE, ("late", 1), DO])
        self.assertEqual([state[0] for state in states], [(0,), (0,), (1,), (2,), (0,)])

    def test_remembered_answers_and_sent_in_order(self):
        workflow = (("call", 0, 2, "x"), ("if", "x", 1, 3), ("call", 0, 1, "y"), ("call", 0, 1, "y"), ("return", "y"))
        events = [DO, DO, DO, FALL, DO, DO, DO, DO, DO]
        states = replay(ONE, workflow, ((2, 3), ()), (1,), events)
        self.assertEqual([state[1] for state in states],
                         [(), (), (), ((3, 2),), ((3, 2),), ((3, 2),), ((3, 2),)] + [((2, 0), (3, 2))] * 3)
        self.assertEqual((states[-1][0], states[-1][6]), ((0,), 2))
        states = replay(ONE, workflow, ((), ()), (1,), events)
        self.assertEqual([state[5] for state in states],
                         [(), (0,), (0,), (0, 3), (0, 3), (0, 3), (0, 3), (0, 2, 3), (0, 2, 3), (0, 2, 3)])
        self.assertEqual((states[-1][0], states[-1][6]), ((1,), 1))

    def test_falls_without_effect(self):
        state = initial_state(ONE, SET_AND_INCREASE, (2,))
        self.assertEqual(next_state(ONE, SET_AND_INCREASE, ((), ()), state, FALL), state)

    def test_only_do_at_other_steps(self):
        workflow = (("go", 1), ("if", "a", 0, 2), ("return", "a"))
        for count in range(3):
            state = replay(ONE, workflow, ((), ()), (0,), [DO] * count)[-1]
            events = possible_events(ONE, workflow, ((), ()), ("fall", "late", "loss"), state)
            self.assertEqual(events, [DO, FALL])
            for event in (LOSE, CUT, ("late", 0), ("late", 1)):
                self.assertIsNone(next_state(ONE, workflow, ((), ()), state, event))
        state = replay(ONE, workflow, ((), ()), (0,), [DO] * 3)[-1]
        self.assertEqual(possible_events(ONE, workflow, ((), ()), ("fall", "late", "loss"), state), [])
        for event in (DO, LOSE, CUT, FALL):
            self.assertIsNone(next_state(ONE, workflow, ((), ()), state, event))

    def test_possible_events_by_class(self):
        state = replay(ONE, SET_AND_INCREASE, ((), ()), (0,), [DO])[-1]
        expected = {
            (): [DO], ("fall",): [CUT, DO, FALL], ("late",): [DO, ("late", 0)], ("loss",): [DO, LOSE],
            ("fall", "late"): [CUT, DO, FALL, ("late", 0)], ("fall", "loss"): [CUT, DO, FALL, LOSE],
            ("late", "loss"): [DO, ("late", 0), LOSE], ("fall", "late", "loss"): [CUT, DO, FALL, ("late", 0), LOSE],
        }
        for faults, events in expected.items():
            self.assertEqual(possible_events(ONE, SET_AND_INCREASE, ((), ()), faults, state), events)

    def test_five_names_and_four_calls(self):
        workflow = (("call", 0, 1, "e"), ("call", 0, 1, "d"), ("call", 0, 2, "c"), ("call", 0, 0, "b"), ("return", "a"))
        states = replay(ONE, workflow, ((0, 3), (1,)), (0,), [DO, DO, DO, CUT, DO, DO, DO])
        self.assertEqual(states[-1], (
            (0,), ((0, 1), (3, 0)), None, (("a", 0), ("b", 0), ("c", 0), ("d", 2), ("e", 1)),
            (2, (("a", 0), ("b", 0), ("c", 0), ("d", 2), ("e", 1))), (1, 2), 0))

    def test_values_stay_after_the_return(self):
        state = replay(ONE, READ_AND_INCREASE, ((), ()), (1,), [DO, DO, DO])[-1]
        self.assertEqual(state[3], a_b(1, 2))
        self.assertEqual(state[6], 1)

    def test_index_of_the_first_impossible_event(self):
        def index(events):
            with self.assertRaises(InvalidEvent) as caught:
                replay(ONE, SET_AND_INCREASE, ((1,), ()), (2,), events)
            return caught.exception.index
        self.assertEqual(index([("late", 0)]), 0)
        self.assertEqual(index([DO, DO, ("late", 1), ("late", 1)]), 2)
        self.assertEqual(index((DO, DO, DO, DO)), 3)
        self.assertEqual(index([DO, DO, LOSE]), 2)
        self.assertEqual(index([DO, DO, CUT]), 2)
        self.assertEqual(index([DO, DO, DO, FALL]), 3)
        for bad in wrong.EVENTS:
            self.assertEqual(index([DO, bad, bad]), 1)
        for bad in [None, 0, True, "", "do", {}, {0: DO}, iter([DO]), {DO}, b"", object(), wrong.Strange()]:
            self.assertIsNone(index(bad))
        self.assertEqual(len(replay(ONE, SET_AND_INCREASE, ((1,), ()), (2,), ())), 1)
        self.assertEqual(len(replay(ONE, SET_AND_INCREASE, ((1,), ()), (2,), (DO,))), 2)


class Random(unittest.TestCase):
    def cases(self, seed, many):
        rng = random.Random(seed)
        for _ in range(many):
            system = samples.random_system(rng)
            workflow = samples.random_workflow(rng, system, 4, 9)
            yield rng, system, workflow, samples.random_protection(rng, workflow)

    def test_next_state_and_possible_events(self):
        for rng, system, workflow, protection in self.cases(6, 400):
            for _ in range(4):
                state = samples.random_state(rng, system, workflow, protection)
                for event in oracle.EVENTS:
                    self.assertEqual(next_state(system, workflow, protection, state, event),
                                     oracle.step_from(system, workflow, protection, state, event))
                for faults in oracle.FAULT_SETS:
                    events = possible_events(system, workflow, protection, faults, state)
                    self.assertEqual(events, sorted(oracle.moves(system, workflow, protection, faults, state)))

    def test_what_is_not_an_event(self):
        for rng, system, workflow, protection in self.cases(7, 30):
            state = samples.random_state(rng, system, workflow, protection)
            for event in wrong.EVENTS:
                self.assertIsNone(next_state(system, workflow, protection, state, event))

    def test_runs(self):
        lengths = []
        for rng, system, workflow, protection in self.cases(8, 400):
            situation = samples.random_situations(rng, system, 1)[0]
            state, events = initial_state(system, workflow, situation), []
            for _ in range(rng.randrange(25)):
                choices = possible_events(system, workflow, protection, ("fall", "late", "loss"), state)
                if choices:
                    events.append(rng.choice(choices + [DO] * 3 * (DO in choices)))
                    state = next_state(system, workflow, protection, state, events[-1])
            expected = oracle.follow(system, workflow, protection, situation, events)
            self.assertEqual(replay(system, workflow, protection, situation, events), expected)
            self.assertEqual(expected[-1], state)
            lengths.append(len(events))
        self.assertGreater(max(lengths), 15)

    def test_events_of_any_form_in_runs(self):
        found = set()
        for rng, system, workflow, protection in self.cases(9, 400):
            situation = samples.random_situations(rng, system, 1)[0]
            events = [rng.choice([DO, DO, DO] + oracle.EVENTS[:7]) for _ in range(rng.randrange(8))]
            run, index = oracle.Run(system, workflow, protection, situation), 0
            while index < len(events) and run.apply(events[index]):
                index += 1
            if index == len(events):
                self.assertEqual(replay(system, workflow, protection, situation, tuple(events))[-1], run.freeze())
            else:
                with self.assertRaises(InvalidEvent) as caught:
                    replay(system, workflow, protection, situation, events)
                self.assertEqual(caught.exception.index, index)
            found.add(index)
        self.assertGreater(len(found), 4)

    def test_without_faults_a_run_is_plain(self):
        for rng, system, workflow, protection in self.cases(10, 300):
            for situation in samples.random_situations(rng, system, 4):
                state = initial_state(system, workflow, situation)
                while state[2] is not None:
                    state = next_state(system, workflow, protection, state, DO)
                self.assertEqual((state[0], state[6]), plain(system, workflow, situation))


if __name__ == "__main__":
    unittest.main()

"""Bad runs (point 8), the decision (point 9), tolerance and weakest runs (point 10)."""

import random
import unittest

from retrykeys.deciding import Insufficient, Sufficient, decide, tolerance, weakest
from retrykeys.runs import initial_state, replay
from retrykeys.workflows import calm_steps, call_steps
from tests import oracle, samples, wrong
from tests.samples import COUNTER, INCREASE, READ_AND_INCREASE, SET_AND_INCREASE, SWITCH, TOLERANT, WITHOUT_CALLS

DO, LOSE, CUT, FALL = ("do",), ("lose",), ("cut",), ("fall",)
ONE = (COUNTER,)
NONE = ((), ())
EVERY = ("fall", "late", "loss")


class ByHand(unittest.TestCase):
    def bad(self, case, length, faults):
        """The decision is Insufficient, with runs of this length, and of this number of faults."""
        system, workflow, protection, situations, classes = case
        found = decide(*case)
        self.assertIsInstance(found, Insufficient)
        self.assertEqual(len(found.events), length)
        self.assertIn(found.situation, situations)
        self.assertTrue(oracle.is_bad(system, workflow, protection, found.situation, found.events, classes))
        self.assertTrue(found.is_correct(*case))
        self.assertEqual(tolerance(*case), faults - 1)
        situation, events = weakest(*case)
        self.assertIn(situation, situations)
        self.assertEqual(sum(event != DO for event in events), faults)
        self.assertTrue(oracle.is_bad(system, workflow, protection, situation, events, classes))
        return found

    def good(self, case):
        found = decide(*case)
        self.assertIsInstance(found, Sufficient)
        self.assertTrue(found.is_correct(*case))
        self.assertIsNone(tolerance(*case))
        self.assertIsNone(weakest(*case))
        return found

    def test_a_checkpoint_does_harm(self):
        case = (ONE, SET_AND_INCREASE, ((), (0,)), [(2,)], ("fall",))
        found = self.bad(case, 4, 1)
        self.assertEqual(found.events, [DO, CUT, DO, DO])
        self.good((ONE, SET_AND_INCREASE, NONE, [(2,)], ("fall",)))

    def test_a_key_does_harm(self):
        # After the fall the counter is set again, and the key keeps it from being increased again.
        found = self.bad((ONE, SET_AND_INCREASE, ((1,), ()), [(2,)], ("fall",)), 5, 1)
        self.assertEqual(found.events[:1], [DO])
        self.good((ONE, SET_AND_INCREASE, ((1,), (0,)), [(2,)], ("fall",)))

    def test_loss(self):
        found = self.bad((ONE, SET_AND_INCREASE, NONE, [(2,)], ("loss",)), 4, 1)
        self.assertEqual(found.events, [DO, LOSE, DO, DO])
        self.good((ONE, SET_AND_INCREASE, ((1,), ()), [(2,)], ("loss",)))
        self.good((ONE, SET_AND_INCREASE, NONE, [(2,)], ()))

    def test_late(self):
        # With a key on the second step, only the late setting of the counter does harm.
        found = self.bad((ONE, SET_AND_INCREASE, ((1,), ()), [(0,)], ("late",)), 4, 1)
        self.assertIn(("late", 0), found.events)
        self.good((ONE, SET_AND_INCREASE, ((0, 1), ()), [(0,)], EVERY))

    def test_read_before_increasing(self):
        self.bad((ONE, READ_AND_INCREASE, NONE, [(0,)], ("fall",)), 5, 1)
        self.bad((ONE, READ_AND_INCREASE, ((1,), ()), [(0,)], ("fall",)), 5, 1)
        self.good((ONE, READ_AND_INCREASE, ((1,), (0,)), [(0,), (1,), (2,)], EVERY))

    def test_one_repetition_is_tolerated(self):
        workflow = (("call", 0, 0, "a"), ("call", 0, 1, "b"), ("return", "b"))
        system = (TOLERANT,)
        found = self.bad((system, workflow, NONE, [(0,)], ("loss",)), 5, 2)
        self.assertEqual(found.events, [LOSE, LOSE, DO, DO, DO])
        self.bad((system, workflow, NONE, [(0,)], ("fall",)), 5, 2)
        # Late after the return, one repetition is too many.
        self.bad((system, workflow, NONE, [(0,)], ("late",)), 4, 1)
        self.bad((system, workflow, NONE, [(0,)], EVERY), 4, 1)
        self.bad((system, workflow, ((1,), ()), [(0,)], ("loss",)), 5, 2)
        self.good((system, workflow, ((0,), ()), [(0,)], EVERY))

    def test_few_faults_and_few_events_differ(self):
        # The weakest run is longer than the shortest one: a branch returns early after two repetitions.
        service = (((1, 1),), ((2, 2),), ((3, 3),), ((3, 3),))
        workflow = (("call", 0, 0, "a"), ("if", "a", 3, 5), ("go", 3), ("go", 4), ("go", 6), ("return", "z"),
                    ("return", "a"))
        case = ((service,), workflow, NONE, [(0,)], ("loss",))
        found = self.bad(case, 5, 1)
        self.assertEqual(found.events, [LOSE, LOSE, DO, DO, DO])
        self.assertEqual(weakest(*case), ((0,), [LOSE, DO, DO, DO, DO, DO, DO]))

    def test_without_calls(self):
        for faults in oracle.FAULT_SETS:
            found = self.good((ONE, WITHOUT_CALLS, NONE, [(2,), (0,)], faults))
            self.assertEqual([len(states) for states in found.states], [4, 4])

    def test_wrong_in_the_middle_and_right_at_the_end(self):
        # The switch is flipped twice by a lost answer, and once more after the return.
        flip = (("call", 0, 2, "a"), ("return", "z"))
        case = ((SWITCH,), flip, NONE, [(0,)], ("late", "loss"))
        self.bad(case, 3, 1)
        events = [LOSE, DO, DO, ("late", 0)]
        states = replay((SWITCH,), flip, NONE, (0,), events)
        self.assertEqual((states[-1][0], states[-1][6]), ((1,), 0))
        self.assertTrue(oracle.is_bad((SWITCH,), flip, NONE, (0,), events, case[4]))
        self.assertFalse(Insufficient((0,), events).is_correct(*case))
        self.assertTrue(Insufficient((0,), events[:3]).is_correct(*case))
        self.assertTrue(Insufficient((0,), [DO, DO, ("late", 0)]).is_correct(*case))

    def test_the_shortest_over_all_situations(self):
        # From 2, increasing overflows at once; from 0 it takes two repetitions.
        service = (((1, 0),), ((2, 0),), ((3, 0),), ((3, 0),))
        for situations in ([(0,), (3,)], [(3,), (0,)]):
            found = self.bad(((service,), INCREASE_SILENTLY, NONE, situations, ("loss",)), 3, 1)
            self.assertEqual(found.situation, (0,))
        late = (("call", 0, 0, "a"), ("if", "a", 0, 4), ("go", 3), ("go", 4), ("return", "z"))
        service = (((1, 0),), ((2, 1),), ((3, 1),), ((3, 1),))
        for situations in ([(0,), (1,), (3,)], ((3,), (1,), (0,))):
            found = self.bad(((service,), late, NONE, list(situations), ("late",)), 4, 1)
            self.assertEqual(found.situation, (0,))
        found = self.bad(((service,), late, NONE, [(1,), (3,)], ("late",)), 6, 1)
        self.assertEqual(found.situation, (1,))

    def test_situations_as_a_tuple(self):
        case = (ONE, INCREASE, NONE, ((1,), (0,)), ("loss",))
        self.bad(case, 3, 1)
        self.good((ONE, INCREASE, ((0,), ()), ((1,), (0,)), EVERY))


INCREASE_SILENTLY = (("call", 0, 0, "a"), ("return", "a"))


class Against(unittest.TestCase):
    """Random systems and workflows, against the exploration of the oracle."""

    def check(self, case):
        system, workflow, protection, situations, faults = case
        found = decide(*case)
        length = oracle.shortest(*case)
        self.assertTrue(found.is_correct(*case), case)
        if length is None:
            self.assertIsInstance(found, Sufficient, case)
            self.assertEqual(len(found.states), len(situations))
            for situation, states in zip(situations, found.states):
                self.check_closed(case, situation, states)
            self.assertIsNone(tolerance(*case))
            self.assertIsNone(weakest(*case))
            return "sufficient"
        self.assertIsInstance(found, Insufficient, case)
        self.assertIn(found.situation, situations)
        self.assertEqual(len(found.events), length, case)
        self.assertTrue(oracle.is_bad(system, workflow, protection, found.situation, found.events, faults), case)
        fewest = oracle.fewest_faults(*case)
        situation, events = weakest(*case)
        self.assertIn(situation, situations)
        self.assertEqual(sum(event != DO for event in events), fewest, case)
        self.assertTrue(oracle.is_bad(system, workflow, protection, situation, events, faults), case)
        self.assertEqual(tolerance(*case), fewest - 1, case)
        return "insufficient"

    def check_closed(self, case, situation, states):
        system, workflow, protection, _, faults = case
        first, graph = oracle.explore(system, workflow, protection, situation, faults)
        known = set(states)
        self.assertIn(first, known)
        for state in states:
            self.assertFalse(oracle.is_bad_state(system, workflow, situation, state), case)
            after = oracle.moves(system, workflow, protection, faults, state).values()
            self.assertTrue(set(after) <= known, case)
        self.assertTrue(set(graph) <= known, case)

    def test_random(self):
        kinds = [self.check(samples.random_case(seed, 4, 2, 9)) for seed in range(1500)]
        self.assertGreater(kinds.count("sufficient"), 300)
        self.assertGreater(kinds.count("insufficient"), 300)

    def test_short_workflows_with_many_situations(self):
        for seed in range(3000, 3300):
            self.check(samples.random_case(seed, 3, 4, 5))

    def test_all_keys_suffice(self):
        for seed in range(4000, 4200):
            system, workflow, protection, situations, _ = samples.random_case(seed, 4, 4, 8)
            protection = (tuple(call_steps(workflow)), protection[1])
            self.assertIsInstance(decide(system, workflow, protection, situations, EVERY), Sufficient)

    def test_keys_on_all_steps_that_are_not_calm_suffice(self):
        calm = 0
        for seed in range(5000, 5600):
            system, workflow, protection, situations, _ = samples.random_case(seed, 4, 4, 8)
            quiet = calm_steps(system, workflow)
            keys = tuple(step for step in call_steps(workflow) if step not in quiet or step in protection[0])
            case = (system, workflow, (keys, protection[1]), situations, EVERY)
            self.assertIsInstance(decide(*case), Sufficient, case)
            calm += len(keys) < len(call_steps(workflow))
        self.assertGreater(calm, 100)


class Changed(unittest.TestCase):
    """is_correct for results that are changed."""

    def test_lists(self):
        rng = random.Random(11)
        verdicts = []
        for seed in range(6000, 6400):
            case = samples.random_case(seed, 3, 2, 6)
            found = decide(*case)
            if isinstance(found, Sufficient):
                for _ in range(6):
                    rows = [list(states) for states in found.states]
                    self.change(rng, case, rows)
                    expected = self.is_correct(case, rows)
                    self.assertIs(Sufficient(rows).is_correct(*case), expected, (case, rows))
                    verdicts.append(expected)
        self.assertGreater(verdicts.count(True), 200)
        self.assertGreater(verdicts.count(False), 200)

    def change(self, rng, case, rows):
        system, workflow, protection, situations, faults = case
        row = rng.choice(rows)
        kind = rng.randrange(8)
        if kind == 0:
            del row[rng.randrange(len(row))]
        elif kind == 1:
            rng.shuffle(row)
            row.append(row[0])
        elif kind == 2:
            rows.reverse()
        elif kind == 3:
            row.append(samples.random_state(rng, system, workflow, protection))
        elif kind in (4, 5):
            # A further state and all that it leads to: often a correct list.
            waiting = [samples.random_state(rng, system, workflow, protection)]
            while waiting:
                state = waiting.pop()
                if state not in row:
                    row.append(state)
                    waiting.extend(oracle.moves(system, workflow, protection, faults, state).values())
        elif kind == 6:
            rng.choice([rows.pop, rows[0].clear, lambda: rows.append(list(rows[0]))])()
        else:
            row[rng.randrange(len(row))] = samples.random_state(rng, system, workflow, protection)

    def is_correct(self, case, rows):
        system, workflow, protection, situations, faults = case
        if len(rows) != len(situations):
            return False
        for situation, row in zip(situations, rows):
            if initial_state(system, workflow, situation) not in row:
                return False
            for state in row:
                if oracle.is_bad_state(system, workflow, situation, state):
                    return False
                for after in oracle.moves(system, workflow, protection, faults, state).values():
                    if after not in row:
                        return False
        return True

    def test_values_that_are_not_states(self):
        case = (ONE, SET_AND_INCREASE, ((1,), (0,)), [(2,), (0,)], ("fall", "loss"))
        found = decide(*case)
        good = initial_state(ONE, SET_AND_INCREASE, (2,))
        for value in wrong.states(good) + [1.5, float("nan"), replace_float(good)]:
            for at in (0, 1):
                rows = [list(states) for states in found.states]
                rows[at].append(value)
                self.assertIs(Sufficient(rows).is_correct(*case), False, value)
                rows[at] = [value]
                self.assertIs(Sufficient(rows).is_correct(*case), False, value)

    def test_a_key_and_a_sent_step_do_not_mix(self):
        case = (ONE, SET_AND_INCREASE, ((1,), (0,)), [(2,)], ("fall", "loss"))
        rows = [list(states) for states in decide(*case).states]
        extra = replay(ONE, SET_AND_INCREASE, ((0, 1), (0,)), (2,), [DO, DO, DO])
        self.assertFalse(Sufficient([rows[0] + extra]).is_correct(*case))
        self.assertTrue(Sufficient([rows[0] + rows[0]]).is_correct(*case))

    def test_a_result_for_other_arguments(self):
        good = decide(ONE, SET_AND_INCREASE, NONE, [(2,), (1,)], ("fall",))
        self.assertTrue(good.is_correct(ONE, SET_AND_INCREASE, NONE, [(2,), (1,)], ("fall",)))
        self.assertFalse(good.is_correct(ONE, SET_AND_INCREASE, NONE, [(1,), (2,)], ("fall",)))
        self.assertFalse(good.is_correct(ONE, SET_AND_INCREASE, NONE, [(2,)], ("fall",)))
        self.assertTrue(good.is_correct(ONE, SET_AND_INCREASE, NONE, [(2,), (1,)], ()))
        self.assertFalse(good.is_correct(ONE, SET_AND_INCREASE, NONE, [(2,), (1,)], ("fall", "loss")))
        self.assertFalse(good.is_correct(ONE, SET_AND_INCREASE, ((), (0,)), [(2,), (1,)], ("fall",)))
        self.assertFalse(good.is_correct(ONE, READ_AND_INCREASE, NONE, [(2,), (1,)], ("fall",)))

    def test_runs(self):
        rng = random.Random(12)
        verdicts = []
        for seed in range(7000, 7500):
            case = samples.random_case(seed, 3, 3, 6)
            system, workflow, protection, situations, faults = case
            found = decide(*case)
            length = oracle.shortest(*case)
            if isinstance(found, Insufficient):
                for _ in range(8):
                    situation, events = found.situation, list(found.events)
                    kind = rng.randrange(5)
                    at = rng.randrange(len(events))
                    if kind == 0:
                        del events[at]
                    elif kind == 1:
                        events.insert(at, rng.choice(oracle.EVENTS[:8]))
                    elif kind == 2:
                        events[at] = rng.choice(oracle.EVENTS[:8])
                    elif kind == 3:
                        situation = samples.random_situations(rng, system, 1)[0]
                    else:
                        rng.shuffle(events)
                    expected = (situation in situations and len(events) == length
                                and oracle.is_bad(system, workflow, protection, situation, events, faults))
                    self.assertIs(Insufficient(situation, events).is_correct(*case), expected, (case, events))
                    verdicts.append(expected)
            else:
                self.assertIs(Insufficient(situations[0], [DO]).is_correct(*case), False)
        self.assertGreater(verdicts.count(True), 100)
        self.assertGreater(verdicts.count(False), 100)

    def test_events_of_any_form(self):
        case = (ONE, SET_AND_INCREASE, ((), (0,)), [(2,)], ("fall",))
        self.assertTrue(Insufficient((2,), [DO, CUT, DO, DO]).is_correct(*case))
        for event in wrong.EVENTS + [LOSE, ("late", 0)]:
            for at in range(4):
                events = [DO, CUT, DO, DO]
                events[at] = event
                self.assertIs(Insufficient((2,), events).is_correct(*case), False, event)
        self.assertIs(Insufficient((2,), []).is_correct(*case), False)
        self.assertIs(Insufficient((1,), [DO, CUT, DO, DO]).is_correct(*case), False)

    def test_current_fields(self):
        case = (ONE, SET_AND_INCREASE, ((), (0,)), [(2,)], ("fall",))
        found = decide(*case)
        found.events.append(FALL)
        self.assertFalse(found.is_correct(*case))
        found.events.pop()
        self.assertTrue(found.is_correct(*case))
        found.situation = (1,)
        self.assertFalse(found.is_correct(*case))
        case = (ONE, SET_AND_INCREASE, NONE, [(2,)], ("fall",))
        found = decide(*case)
        removed = found.states[0].pop()
        self.assertFalse(found.is_correct(*case))
        found.states[0].insert(0, removed)
        self.assertTrue(found.is_correct(*case))
        found.states = []
        self.assertFalse(found.is_correct(*case))


def replace_float(state):
    return wrong.replaced(state, 2, 0.0)


if __name__ == "__main__":
    unittest.main()

"""Two clients: joint states and events (point 15), isolated and interfering pairs (point 16)."""

import random
import unittest

from retrykeys.errors import TooLarge
from retrykeys.pairs import Interfering, Isolated, decide_pair, initial_joint, next_joint
from retrykeys.runs import initial_state, next_state
from tests import oracle, samples, wrong
from tests.samples import COUNTER, INCREASE, READ_AND_INCREASE, SET_AND_INCREASE, SWITCH, WITHOUT_CALLS

DO, LOSE, CUT, FALL = ("do",), ("lose",), ("cut",), ("fall",)
ONE = (COUNTER,)
NONE = ((), ())
BARE = (NONE, NONE)
EVERY = ("fall", "late", "loss")
SET = (("call", 0, 0, "a"), ("return", "a"))
READ = (("call", 0, 2, "a"), ("return", "a"))


def client(result=None, at=0, remembered=(), sent=(), value=0, saved=(0, 0)):
    """The state of a client whose workflow has only the name a."""
    return remembered, at, (("a", value),), (saved[0], (("a", saved[1]),)), sent, result


class Joint(unittest.TestCase):
    """Point 15."""

    def test_initial_state(self):
        self.assertEqual(initial_joint(ONE, (INCREASE, READ), (2,)), ((2,), client(), client()))
        found = initial_joint((COUNTER, SWITCH), (READ, READ_AND_INCREASE), (1, 0))
        zeros = (("a", 0), ("b", 0))
        self.assertEqual(found, ((1, 0), client(), ((), 0, zeros, (0, zeros), (), None)))

    def test_each_client_changes_the_situation_and_itself(self):
        state = initial_joint(ONE, (INCREASE, READ), (0,))
        state = next_joint(ONE, (INCREASE, READ), BARE, state, (0, DO))
        self.assertEqual(state, ((1,), client(at=1, sent=(0,), value=1), client()))
        state = next_joint(ONE, (INCREASE, READ), BARE, state, (1, DO))
        self.assertEqual(state, ((1,), client(at=1, sent=(0,), value=1), client(at=1, sent=(0,), value=1)))
        state = next_joint(ONE, (INCREASE, READ), BARE, state, (0, ("late", 0)))
        self.assertEqual(state, ((2,), client(at=1, sent=(0,), value=1), client(at=1, sent=(0,), value=1)))
        state = next_joint(ONE, (INCREASE, READ), BARE, state, (1, DO))
        self.assertEqual(state, ((2,), client(at=1, sent=(0,), value=1), client(1, None, (), (0,), 1)))
        state = next_joint(ONE, (INCREASE, READ), BARE, state, (0, FALL))
        self.assertEqual(state, ((2,), client(sent=(0,)), client(1, None, (), (0,), 1)))
        self.assertIsNone(next_joint(ONE, (INCREASE, READ), BARE, state, (1, FALL)))
        self.assertIsNone(next_joint(ONE, (INCREASE, READ), BARE, state, (1, DO)))

    def test_keys_are_the_clients_own(self):
        # Both clients have a key on step 0, and both requests are executed.
        keyed = (((0,), ()), ((0,), ()))
        state = initial_joint(ONE, (INCREASE, INCREASE), (0,))
        for event in [(0, LOSE), (1, LOSE), (0, LOSE), (1, LOSE)]:
            state = next_joint(ONE, (INCREASE, INCREASE), keyed, state, event)
        self.assertEqual(state, ((2,), client(remembered=((0, 1),)), client(remembered=((0, 2),))))
        self.assertIsNone(next_joint(ONE, (INCREASE, INCREASE), keyed, state, (0, ("late", 0))))
        # A key of one client only.
        keyed = (((0,), ()), NONE)
        state = initial_joint(ONE, (INCREASE, INCREASE), (0,))
        for event in [(1, LOSE), (0, LOSE), (0, DO), (1, CUT), (1, ("late", 0))]:
            state = next_joint(ONE, (INCREASE, INCREASE), keyed, state, event)
        self.assertEqual(state, ((1,), client(at=1, remembered=((0, 2),), value=2), client(sent=(0,))))

    def test_checkpoints_are_the_clients_own(self):
        saved = (NONE, ((), (0,)))
        state = initial_joint(ONE, (READ, READ), (2,))
        for event in [(0, DO), (1, DO), (0, FALL), (1, FALL)]:
            state = next_joint(ONE, (READ, READ), saved, state, event)
        self.assertEqual(state, ((2,), client(sent=(0,)), client(at=1, sent=(0,), value=2, saved=(1, 2))))

    def test_what_is_not_an_event(self):
        state = ((0,), client(sent=(0,)), client(sent=(0,)))
        workflows = (INCREASE, READ)
        good = (0, ("late", 0))
        self.assertIsNotNone(next_joint(ONE, workflows, BARE, state, good))
        for value in wrong.EVENTS + [good, (good,), (0, good), (0,), (0, DO, DO), [0, DO], ("do", 0), (DO, 0)]:
            for event in ((0, value), (1, value)):
                self.assertIsNone(next_joint(ONE, workflows, BARE, state, event), event)
        for value in wrong.ANYTHING + [2, 10, -2, "0", "1", (0,), [0]]:
            if type(value) is not int or value not in (0, 1):
                self.assertIsNone(next_joint(ONE, workflows, BARE, state, (value, DO)), value)
                self.assertIsNone(next_joint(ONE, workflows, BARE, state, value), value)
        for event in [(0, DO, DO), (0,), [0, DO], (0, ["do"]), DO, ("do", 0), (0, "do"), (0, 0, DO), ((0, DO),)]:
            self.assertIsNone(next_joint(ONE, workflows, BARE, state, event), event)

    def test_single_events(self):
        """All events in random states, reachable or not."""
        rng = random.Random(151)
        possible = impossible = 0
        for seed in range(20000, 20400):
            system, workflows, protections, _, _ = random_pair(seed, 2, 1)
            parts = [samples.random_state(rng, system, *pair) for pair in zip(workflows, protections)]
            state = (parts[0][0], parts[0][1:], parts[1][1:])
            for event in oracle.JOINT_EVENTS:
                expected = oracle.joint_step(system, workflows, protections, state, event)
                self.assertEqual(next_joint(system, workflows, protections, state, event), expected)
                possible += expected is not None
                impossible += expected is None
        self.assertGreater(possible, 1000)
        self.assertGreater(impossible, 1000)

    def test_a_joint_event_is_an_event_of_one_client(self):
        for seed in range(21000, 21100):
            rng = random.Random(seed)
            system, workflows, protections, situations, _ = random_pair(seed, 2, 1)
            state = initial_joint(system, workflows, situations[0])
            for which in (0, 1):
                own = initial_state(system, workflows[which], situations[0])
                self.assertEqual((state[0],) + state[1 + which], own)
            for _ in range(20):
                which, event = rng.choice(oracle.JOINT_EVENTS[:20])
                after = next_joint(system, workflows, protections, state, (which, event))
                own = (state[0],) + state[1 + which]
                expected = next_state(system, workflows[which], protections[which], own, event)
                if expected is None:
                    self.assertIsNone(after)
                else:
                    self.assertEqual((after[0],) + after[1 + which], expected)
                    self.assertEqual(after[2 - which], state[2 - which])
                    state = after


def random_pair(seed, most_calls, most_situations, longest=5):
    """A system, and a pair of workflows and of protections, situations and a set of faults."""
    rng = random.Random(seed)
    system = samples.random_system(rng)
    workflows = tuple(samples.random_workflow(rng, system, most_calls, longest) for _ in range(2))
    if rng.random() < 0.2:
        workflows = (workflows[0], workflows[0])
    protections = tuple(samples.random_protection(rng, workflow) for workflow in workflows)
    situations = samples.random_situations(rng, system, most_situations)
    return system, workflows, protections, situations, rng.choice([()] * 4 + oracle.FAULT_SETS)


class ByHand(unittest.TestCase):
    """Point 16."""

    def bad(self, case, length):
        system, workflows, protections, situations, faults = case
        found = decide_pair(*case)
        self.assertIs(type(found), Interfering)
        self.assertEqual(len(found.events), length)
        self.assertIn(found.situation, situations)
        self.assertTrue(oracle.is_bad_joint_run(system, workflows, protections, found.situation, found.events, faults))
        self.assertTrue(found.is_correct(*case))
        return found

    def good(self, case):
        found = decide_pair(*case)
        self.assertIs(type(found), Isolated)
        self.assertEqual(len(found.states), len(case[3]))
        self.assertTrue(found.is_correct(*case))
        return found

    def test_read_and_increase(self):
        # Both read 0 before one of them increases.
        pair = (READ_AND_INCREASE, READ_AND_INCREASE)
        found = self.bad((ONE, pair, BARE, [(0,)], ()), 6)
        self.assertEqual(sorted(found.events), [(0, DO)] * 3 + [(1, DO)] * 3)
        # Keys do not help against another client.
        keyed = ((0, 1), ())
        self.bad((ONE, pair, (keyed, keyed), [(0,)], ()), 6)

    def test_one_step_each(self):
        # Without faults, one call each is executed in one of the two orders.
        for first in (INCREASE, SET, READ):
            for second in (INCREASE, SET, READ):
                self.good((ONE, (first, second), BARE, [(0,), (1,), (2,)], ()))

    def test_a_lost_answer(self):
        pair = (INCREASE, READ)
        self.good((ONE, pair, BARE, [(0,)], ()))
        # Increasing twice: 2 instead of 1.
        found = self.bad((ONE, pair, BARE, [(0,)], ("loss",)), 5)
        self.assertIn((0, LOSE), found.events)
        self.good((ONE, pair, (((0,), ()), NONE), [(0,), (1,), (2,)], EVERY))
        # Losing the answer of the reading client does no harm, but the key of the other one is needed.
        self.bad((ONE, pair, (NONE, ((0,), ())), [(0,)], ("loss",)), 5)

    def test_results_count(self):
        # Client 0 sets and reads; the switch is flipped in between, so it reads what no order yields.
        set_and_read = (("call", 0, 1, "a"), ("call", 0, 2, "b"), ("return", "b"))
        flip = (("call", 0, 2, "c"), ("return", "z"))
        case = ((SWITCH,), (set_and_read, flip), BARE, [(0,)], ())
        found = self.bad(case, 5)
        self.assertEqual(found.events[:3], [(0, DO), (1, DO), (0, DO)])
        # The situation alone is serial: 1, and 1 after both orders.
        state = initial_joint((SWITCH,), case[1], (0,))
        for event in found.events:
            state = next_joint((SWITCH,), case[1], BARE, state, event)
        self.assertEqual((state[0], state[1][5], state[2][5]), ((1,), 1, 0))
        # Serial: flip first, (0,) with the result 0; or flip last, (1,) with the result 0.
        orders = [oracle.plain((SWITCH,), set_and_read, (1,)), oracle.plain((SWITCH,), set_and_read, (0,))]
        self.assertEqual(orders, [((0,), 0), ((0,), 0)])

    def test_a_result_of_client_1_counts(self):
        pair = (READ, READ_AND_INCREASE)
        self.good((ONE, pair, BARE, [(0,), (2,)], ()))
        pair = (INCREASE, (("call", 0, 2, "a"), ("call", 0, 2, "b"), ("return", "b")))
        self.good((ONE, pair, BARE, [(0,)], ()))
        # 0 at first and 1 afterwards: only in between, and only then the result is 1.
        twice = (("call", 0, 2, "a"), ("call", 0, 2, "b"), ("if", "a", 1, 4), ("return", "b"), ("return", "z"))
        self.bad((ONE, (INCREASE, twice), BARE, [(0,)], ()), 6)
        self.bad((ONE, (twice, INCREASE), BARE, [(0,)], ()), 6)
        self.good((ONE, (INCREASE, twice), BARE, [(1,)], ()))

    def test_each_order_is_serial(self):
        # Setting to 0 and increasing: 1 in one order, 0 in the other one; both results are those of an order.
        case = (ONE, (SET, INCREASE), BARE, [(1,)], ())
        found = self.good(case)
        ends = {(s[0], s[1][5], s[2][5]) for s in found.states[0] if s[1][1] is None and s[2][1] is None}
        self.assertEqual(ends, {((1,), 0, 1), ((0,), 0, 2)})

    def test_the_situation_of_one_order_and_the_results_of_the_other(self):
        # A late request of client 0 changes the situation to that of the other order.
        case = (ONE, (SET, INCREASE), BARE, [(1,)], ("late",))
        found = self.bad(case, 5)
        self.assertIn((0, ("late", 0)), found.events)
        self.assertTrue(Interfering((1,), [(0, DO), (1, DO), (0, ("late", 0)), (0, DO), (1, DO)]).is_correct(*case))
        # Serial all the time, although a request is late: the counter is set to 0 twice before it is increased.
        events = [(0, DO), (0, ("late", 0)), (1, DO), (0, DO), (1, DO)]
        self.assertFalse(Interfering((1,), events).is_correct(*case))
        # Possible, serial at first, bad later, and serial again in the end: the run is bad.
        events = [(1, DO), (0, DO), (0, DO), (1, DO), (1, ("late", 0)), (0, ("late", 0))]
        self.assertTrue(oracle.is_bad_joint_run(ONE, case[1], BARE, (1,), events, ("late",)))
        self.assertFalse(Interfering((1,), events).is_correct(*case))

    def test_both_must_have_returned(self):
        # A client alone is wrong, but the other one never returns before it is right again.
        state = ((2,), client(2, None, (), (0,), 2), client(at=1, sent=(0,), value=1))
        self.assertFalse(oracle.is_bad_joint(ONE, (INCREASE, INCREASE), (0,), state))
        rows = decide_pair(ONE, (READ, READ), BARE, [(0,)], ()).states
        rows[0] += [((0,), client(7, None, (), (0,), 7), client(at=1, sent=(0,), value=8))]
        self.assertFalse(Isolated(rows).is_correct(ONE, (READ, READ), BARE, [(0,)], ()))
        rows[0][-1] = ((0,), client(7, None, (), (0,), 7), client(at=1, sent=(0,), value=0))
        rows[0] += [((0,), client(7, None, (), (0,), 7), client(0, None, (), (0,), 0))]
        self.assertFalse(Isolated(rows).is_correct(ONE, (READ, READ), BARE, [(0,)], ()))
        del rows[0][-2:]
        self.assertTrue(Isolated(rows).is_correct(ONE, (READ, READ), BARE, [(0,)], ()))

    def test_the_shortest_over_two_situations(self):
        # Increasing overflows from 2: from 0 two requests are enough, from 1 as well; from 2 it is one.
        pair = (INCREASE, (("go", 1), ("go", 2), ("return", "a")))
        service = (((1, 0),), ((2, 0),), ((3, 0),), ((3, 0),))
        step = (("call", 0, 0, "a"), ("return", "a"))
        other = (("if", "a", 1, 1), ("return", "a"))
        for situations in ([(0,), (3,)], [(3,), (0,)], ((3,), (0,))):
            found = self.bad(((service,), (step, other), BARE, situations, ("loss",)), 5)
            self.assertEqual(found.situation, (0,))
        self.good(((service,), (step, other), BARE, [(3,)], ("loss",)))
        self.bad((ONE, pair, BARE, [(2,), (1,), (0,)], ("loss",)), 6)
        # From 1 the run is longer than from 0: the workflow takes a longer way.
        detour = (("call", 0, 0, "a"), ("if", "a", 0, 4), ("go", 3), ("go", 4), ("return", "z"))
        service = (((1, 0),), ((2, 1),), ((3, 1),), ((3, 1),))
        for situations in ([(0,), (1,), (3,)], [(3,), (1,), (0,)]):
            found = self.bad(((service,), (detour, other), BARE, situations, ("late",)), 6)
            self.assertEqual(found.situation, (0,))
        found = self.bad(((service,), (detour, other), BARE, [(3,), (1,)], ("late",)), 8)
        self.assertEqual(found.situation, (1,))

    def test_faults_apply_to_both(self):
        for case in [(INCREASE, WITHOUT_CALLS), (WITHOUT_CALLS, INCREASE)]:
            self.good((ONE, case, BARE, [(0,)], ()))
            self.bad((ONE, case, BARE, [(0,)], ("loss",)), 6)
            self.bad((ONE, case, BARE, [(0,)], ("fall",)), 6)
            self.bad((ONE, case, BARE, [(0,)], ("late",)), 6)

    def test_without_calls(self):
        case = (ONE, (WITHOUT_CALLS, WITHOUT_CALLS), BARE, [(0,), (2,)], EVERY)
        found = self.good(case)
        self.assertEqual([len(states) for states in found.states], [16, 16])

    def test_two_services(self):
        # The clients use different services, so nothing can interfere.
        first = (("call", 0, 2, "a"), ("call", 0, 1, "b"), ("return", "a"))
        second = (("call", 1, 2, "a"), ("call", 1, 0, "b"), ("return", "a"))
        self.good(((COUNTER, SWITCH), (first, second), BARE, [(0, 0), (1, 1), (2, 0)], ()))
        # One reads both services, the other one changes both in between.
        switch = (((0, 0), (1, 1), (0, 0)), ((0, 0), (1, 1), (1, 1)))
        read = (("call", 0, 2, "a"), ("call", 1, 2, "b"), ("if", "a", 1, 4), ("return", "b"), ("return", "z"))
        for change in [
            (("call", 1, 1, "a"), ("call", 0, 1, "b"), ("return", "z")),
            (("call", 0, 1, "a"), ("call", 1, 1, "b"), ("return", "z")),
        ]:
            found = self.bad(((COUNTER, switch), (read, change), BARE, [(1, 0), (0, 0)], ()), 7)
            self.assertEqual(found.situation, (0, 0))
            self.good(((COUNTER, switch), (read, change), BARE, [(1, 0)], ()))

    def test_three_calls_are_too_many(self):
        three = (("call", 0, 2, "a"),) * 3 + (("return", "a"),)
        for pair in [(three, READ), (READ, three), (three, three)]:
            for function, arguments in [
                (initial_joint, (ONE, pair, (0,))),
                (next_joint, (ONE, pair, BARE, None, None)),
                (decide_pair, (ONE, pair, BARE, [(0,)], ())),
                (Isolated([]).is_correct, (ONE, pair, BARE, [(0,)], ())),
                (Interfering((0,), []).is_correct, (ONE, pair, BARE, [(0,)], ())),
            ]:
                with self.assertRaises(TooLarge):
                    function(*arguments)

    def test_a_serial_run_is_not_bad(self):
        case = (ONE, (READ_AND_INCREASE, READ_AND_INCREASE), BARE, [(0,)], ())
        self.assertTrue(Interfering((0,), [(0, DO), (1, DO)] * 3).is_correct(*case))
        self.assertTrue(Interfering((0,), [(1, DO), (0, DO), (1, DO), (1, DO), (0, DO), (0, DO)]).is_correct(*case))
        self.assertFalse(Interfering((0,), [(0, DO)] * 3 + [(1, DO)] * 3).is_correct(*case))
        self.assertFalse(Interfering((0,), [(0, DO), (1, DO)] * 2 + [(1, DO), (1, DO)]).is_correct(*case))
        self.assertFalse(Interfering((0,), [(0, DO), (1, DO)] * 2).is_correct(*case))
        self.assertFalse(Interfering((0,), []).is_correct(*case))
        self.assertFalse(Interfering((1,), [(0, DO), (1, DO)] * 3).is_correct(*case))


class Against(unittest.TestCase):
    """Random pairs, against the exploration of the oracle."""

    def check(self, case):
        system, workflows, protections, situations, faults = case
        found = decide_pair(*case)
        length = oracle.joint_shortest(*case)
        self.assertTrue(found.is_correct(*case), case)
        if length is None:
            self.assertIs(type(found), Isolated, case)
            self.assertEqual(len(found.states), len(situations))
            for situation, states in zip(situations, found.states):
                first, graph = oracle.joint_graph(system, workflows, protections, situation, faults)
                known = set(states)
                self.assertIn(first, known)
                self.assertTrue(set(graph) <= known, case)
                for state in states:
                    self.assertFalse(oracle.is_bad_joint(system, workflows, situation, state), case)
                    after = oracle.joint_moves(system, workflows, protections, faults, state).values()
                    self.assertTrue(set(after) <= known, case)
            return "isolated"
        self.assertIs(type(found), Interfering, case)
        self.assertIn(found.situation, situations)
        self.assertEqual(len(found.events), length, case)
        self.assertTrue(oracle.is_bad_joint_run(
            system, workflows, protections, found.situation, found.events, faults), case)
        return "interfering"

    def test_one_call_each(self):
        kinds = [self.check(random_pair(seed, 1, 2)) for seed in range(22000, 22300)]
        self.assertGreater(kinds.count("isolated"), 60)
        self.assertGreater(kinds.count("interfering"), 20)

    def test_two_calls_each(self):
        kinds = [self.check(random_pair(seed, 2, 2)) for seed in range(23000, 23150)]
        self.assertGreater(kinds.count("isolated"), 30)
        self.assertGreater(kinds.count("interfering"), 30)

    def test_both_executed_alone_and_in_turn(self):
        """Without faults, a pair of workflows with one call each is isolated."""
        for seed in range(24000, 24200):
            system, workflows, protections, situations, _ = random_pair(seed, 1, 4)
            self.assertIs(type(decide_pair(system, workflows, protections, situations, ())), Isolated)


class Changed(unittest.TestCase):
    """is_correct for results that are changed."""

    def test_lists(self):
        rng = random.Random(161)
        verdicts = []
        for seed in range(25000, 25250):
            case = random_pair(seed, 2, 2, 4)
            found = decide_pair(*case)
            if type(found) is Isolated and len(found.states[0]) < 300:
                for _ in range(6):
                    rows = [list(states) for states in found.states]
                    self.change(rng, case, rows)
                    expected = self.is_correct(case, rows)
                    self.assertIs(Isolated(rows).is_correct(*case), expected, (case, rows))
                    verdicts.append(expected)
        self.assertGreater(verdicts.count(True), 100)
        self.assertGreater(verdicts.count(False), 100)

    def change(self, rng, case, rows):
        system, workflows, protections, situations, faults = case
        row = rng.choice(rows)
        kind = rng.randrange(8)
        if kind == 0:
            del row[rng.randrange(len(row))]
        elif kind == 1:
            rng.shuffle(row)
            row.append(row[0])
        elif kind == 2:
            rows.reverse()
        elif kind == 3:
            row.append(self.random_joint(rng, case))
        elif kind in (4, 5):
            # A further state and all that it leads to: often a correct list.
            waiting = [self.random_joint(rng, case)]
            while waiting:
                state = waiting.pop()
                if state not in row:
                    row.append(state)
                    waiting.extend(oracle.joint_moves(system, workflows, protections, faults, state).values())
        elif kind == 6:
            rng.choice([rows.pop, rows[0].clear, lambda: rows.append(list(rows[0]))])()
        else:
            row[rng.randrange(len(row))] = self.random_joint(rng, case)

    def random_joint(self, rng, case):
        system, workflows, protections, _, _ = case
        parts = [samples.random_state(rng, system, *pair) for pair in zip(workflows, protections)]
        return parts[0][0], parts[0][1:], parts[1][1:]

    def is_correct(self, case, rows):
        system, workflows, protections, situations, faults = case
        if len(rows) != len(situations):
            return False
        for situation, row in zip(situations, rows):
            if oracle.Joint(system, workflows, protections, situation).freeze() not in row:
                return False
            for state in row:
                if oracle.is_bad_joint(system, workflows, situation, state):
                    return False
                for after in oracle.joint_moves(system, workflows, protections, faults, state).values():
                    if after not in row:
                        return False
        return True

    def test_values_that_are_not_joint_states(self):
        case = (ONE, (READ, INCREASE), (NONE, ((0,), (0,))), [(2,), (0,)], ("fall", "loss"))
        found = decide_pair(*case)
        good = initial_joint(ONE, case[1], (2,))
        for value in wrong.joint_states(good) + [1.5, float("nan")]:
            for at in (0, 1):
                rows = [list(states) for states in found.states]
                rows[at].append(value)
                self.assertIs(Isolated(rows).is_correct(*case), False, value)
                rows[at] = [value]
                self.assertIs(Isolated(rows).is_correct(*case), False, value)

    def test_states_of_each_client_fit_its_own_protection(self):
        workflows = (INCREASE, INCREASE)
        case = (ONE, workflows, (((0,), ()), ((0,), ())), [(0,)], EVERY)
        rows = decide_pair(*case).states
        self.assertTrue(Isolated(rows).is_correct(*case))
        for extra in [((0,), client(sent=(0,)), client()), ((0,), client(), client(sent=(0,)))]:
            self.assertFalse(Isolated([rows[0] + [extra]]).is_correct(*case))
        # Serial, whatever follows: both remember, and return what an order yields.
        extra = ((2,), client(1, None, ((0, 1),)), client(2, None, ((0, 2),)))
        self.assertTrue(Isolated([rows[0] + [extra]]).is_correct(*case))
        extra = ((2,), client(2, None, ((0, 1),)), client(2, None, ((0, 2),)))
        self.assertFalse(Isolated([rows[0] + [extra]]).is_correct(*case))

    def test_outcomes_that_are_not_serial(self):
        case = (ONE, (SET, INCREASE), BARE, [(1,)], ())
        found = decide_pair(*case)
        for outcome, serial in [
            (((1,), 0, 1), True), (((0,), 0, 2), True), (((1,), 0, 2), False), (((0,), 0, 1), False),
            (((0,), 1, 2), False), (((2,), 0, 1), False), (((1,), 1, 0), False),
        ]:
            extra = (outcome[0], client(outcome[1], None), client(outcome[2], None))
            rows = [found.states[0] + [extra]]
            self.assertIs(Isolated(rows).is_correct(*case), serial, outcome)

    def test_a_result_for_other_arguments(self):
        good = decide_pair(ONE, (SET, INCREASE), BARE, [(1,), (0,)], ())
        self.assertTrue(good.is_correct(ONE, (SET, INCREASE), BARE, ((1,), (0,)), ()))
        self.assertFalse(good.is_correct(ONE, (SET, INCREASE), BARE, [(0,), (1,)], ()))
        self.assertFalse(good.is_correct(ONE, (SET, INCREASE), BARE, [(1,)], ()))
        self.assertFalse(good.is_correct(ONE, (INCREASE, SET), BARE, [(1,), (0,)], ()))
        self.assertFalse(good.is_correct(ONE, (SET, INCREASE), BARE, [(1,), (0,)], ("loss",)))
        self.assertFalse(good.is_correct(ONE, (SET, INCREASE), (((0,), ()), NONE), [(1,), (0,)], ()))

    def test_runs(self):
        rng = random.Random(162)
        verdicts = []
        for seed in range(26000, 26200):
            case = random_pair(seed, 2, 2, 4)
            system, workflows, protections, situations, faults = case
            found = decide_pair(*case)
            if type(found) is Isolated:
                self.assertIs(Interfering(situations[0], [(0, DO)]).is_correct(*case), False)
                continue
            # Its length is held against the oracle by the tests above.
            length = len(found.events)
            for _ in range(8):
                situation, events = found.situation, list(found.events)
                kind, at = rng.randrange(6), rng.randrange(len(events))
                if kind == 0:
                    del events[at]
                elif kind == 1:
                    events.insert(at, rng.choice(oracle.JOINT_EVENTS))
                elif kind == 2:
                    events[at] = (1 - events[at][0], events[at][1])
                elif kind == 3:
                    situation = samples.random_situations(rng, system, 1)[0]
                elif kind == 4:
                    events[at:] = events[:at - 1:-1] if at else events[::-1]
                else:
                    rng.shuffle(events)
                expected = (situation in situations and len(events) == length and oracle.is_bad_joint_run(
                    system, workflows, protections, situation, events, faults))
                self.assertIs(Interfering(situation, events).is_correct(*case), expected, (case, events))
                verdicts.append(expected)
        self.assertGreater(verdicts.count(True), 50)
        self.assertGreater(verdicts.count(False), 100)

    def test_events_of_any_form(self):
        case = (ONE, (INCREASE, READ), BARE, [(0,)], ("late",))
        good = [(0, DO), (0, ("late", 0)), (0, DO), (1, DO), (1, DO)]
        self.assertTrue(Interfering((0,), good).is_correct(*case))
        strange = [(0, event) for event in wrong.EVENTS] + wrong.EVENTS + [(0, LOSE), (True, DO), (False, DO), (2, DO)]
        for event in strange + [(0, DO, DO), [0, DO], (-1, DO), (None, DO), (wrong.Strange(), DO)]:
            for at in range(5):
                events = list(good)
                events[at] = event
                self.assertIs(Interfering((0,), events).is_correct(*case), False, event)
        events = [(0, DO), (False, ("late", 0)), (0, DO), (1, DO), (1, DO)]
        self.assertIs(Interfering((0,), events).is_correct(*case), False)
        events = [(0, DO), (0, ("late", False)), (0, DO), (1, DO), (1, DO)]
        self.assertIs(Interfering((0,), events).is_correct(*case), False)

    def test_current_fields(self):
        case = (ONE, (READ_AND_INCREASE, READ_AND_INCREASE), BARE, [(0,)], ())
        found = decide_pair(*case)
        found.events.append((0, DO))
        self.assertFalse(found.is_correct(*case))
        found.events.pop()
        self.assertTrue(found.is_correct(*case))
        found.situation = (1,)
        self.assertFalse(found.is_correct(*case))
        case = (ONE, (READ, READ), BARE, [(0,)], ())
        found = decide_pair(*case)
        removed = found.states[0].pop()
        self.assertFalse(found.is_correct(*case))
        found.states[0].insert(0, removed)
        self.assertTrue(found.is_correct(*case))
        found.states = []
        self.assertFalse(found.is_correct(*case))


if __name__ == "__main__":
    unittest.main()

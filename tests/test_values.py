"""Arguments are not changed or kept, results are new, objects compare by their current fields (point 1)."""

import unittest

from retrykeys.deciding import Insufficient, Sufficient, decide, weakest
from retrykeys.families import (
    Family, breaches, family, minimal_protections, protections, robust_protections, sufficient_protections,
)
from retrykeys.runs import initial_state, possible_events, replay
from retrykeys.services import commuting, repeatable
from retrykeys.workflows import call_steps, calm_steps
from tests.samples import COUNTER, SET_AND_INCREASE

DO, CUT = ("do",), ("cut",)
SYSTEM = (COUNTER,)
GOOD = (SYSTEM, SET_AND_INCREASE, ((), ()), [(2,), (0,)], ("fall",))
BAD = (SYSTEM, SET_AND_INCREASE, ((), (0,)), [(2,), (0,)], ("fall",))
FAMILY = (SYSTEM, SET_AND_INCREASE, [(2,), (0,)], ("fall",))


class Same:
    """Has all fields of all results."""

    def __init__(self, other):
        self.__dict__.update(other.__dict__)


class Values(unittest.TestCase):
    def test_results_are_new_lists(self):
        state = initial_state(SYSTEM, SET_AND_INCREASE, (2,))
        calls = [
            lambda: repeatable(COUNTER), lambda: commuting((((0, 0), (0, 1)),)), lambda: call_steps(SET_AND_INCREASE),
            lambda: calm_steps(SYSTEM, (("call", 0, 2, "a"), ("return", "a"))),
            lambda: possible_events(SYSTEM, SET_AND_INCREASE, ((), ()), ("fall",), state),
            lambda: replay(SYSTEM, SET_AND_INCREASE, ((), ()), (2,), [DO]),
            lambda: weakest(*BAD)[1], lambda: decide(*BAD).events, lambda: decide(*GOOD).states,
            lambda: decide(*GOOD).states[0], lambda: protections(SET_AND_INCREASE),
            lambda: sufficient_protections(*FAMILY), lambda: minimal_protections(*FAMILY),
            lambda: robust_protections(*FAMILY), lambda: breaches(*FAMILY), lambda: family(*FAMILY).protections,
            lambda: family(*FAMILY).runs, lambda: family(*FAMILY).runs[0][1],
        ]
        for call in calls:
            first = call()
            self.assertIs(type(first), list)
            self.assertGreater(len(first), 0)
            kept = list(first)
            first.clear()
            self.assertEqual(call(), kept)

    def test_lists_of_one_result_are_different(self):
        states = decide(SYSTEM, (("return", "a"),), ((), ()), [(2,), (0,)], ()).states
        self.assertIsNot(states[0], states[1])
        runs = family(*FAMILY).runs
        for index, (_, events) in enumerate(runs):
            for _, others in runs[index + 1:]:
                self.assertIsNot(events, others)

    def test_kinds_of_results(self):
        self.assertIs(type(decide(*GOOD).states), list)
        for states in decide(*GOOD).states:
            self.assertIs(type(states), list)
            self.assertTrue(all(type(state) is tuple for state in states))
        pair = weakest(*BAD)
        self.assertIs(type(pair), tuple)
        self.assertIs(type(pair[0]), tuple)
        for run in family(*FAMILY).runs:
            self.assertEqual([type(item) for item in run], [tuple, list])
        self.assertIs(type(initial_state(SYSTEM, SET_AND_INCREASE, (2,))), tuple)

    def test_arguments_are_not_changed(self):
        situations = [(2,), (0,)]
        events = [DO, CUT, DO, DO]
        decide(SYSTEM, SET_AND_INCREASE, ((), (0,)), situations, ("fall",))
        weakest(SYSTEM, SET_AND_INCREASE, ((), (0,)), situations, ("fall",))
        found = family(SYSTEM, SET_AND_INCREASE, situations, ("fall",))
        found.is_correct(SYSTEM, SET_AND_INCREASE, situations, ("fall",))
        replay(SYSTEM, SET_AND_INCREASE, ((), (0,)), (2,), events)
        self.assertEqual(situations, [(2,), (0,)])
        self.assertEqual(events, [DO, CUT, DO, DO])
        kept = (list(found.protections), [(situation, list(events)) for situation, events in found.runs])
        found.is_correct(SYSTEM, SET_AND_INCREASE, [(1,)], ("loss",))
        self.assertEqual((found.protections, found.runs), kept)

    def test_is_correct_changes_no_fields(self):
        for case in (GOOD, BAD):
            found, other = decide(*case), decide(*case)
            self.assertTrue(found.is_correct(*case))
            self.assertFalse(found.is_correct(*(BAD if case is GOOD else GOOD)))
            self.assertEqual(found, other)

    def test_constructors_copy(self):
        rows = [[1, "x"], [None]]
        found = Sufficient(rows)
        rows[0].append(2)
        rows.append([])
        self.assertEqual(found.states, [[1, "x"], [None]])
        found.states[1].append(3)
        self.assertEqual(rows, [[1, "x", 2], [None], []])
        events = [DO]
        found = Insufficient((2,), events)
        events.append(CUT)
        self.assertEqual(found.events, [DO])
        found.events.clear()
        self.assertEqual(events, [DO, CUT])
        listed, runs = [((), ())], [((2,), [DO])]
        found = Family(listed, runs)
        listed.append(((0,), ()))
        runs[0][1].append(CUT)
        runs.append(((0,), []))
        self.assertEqual((found.protections, found.runs), ([((), ())], [((2,), [DO])]))
        found.runs[0][1].append(DO)
        found.runs.pop()
        found.protections.pop()
        self.assertEqual((listed, runs), ([((), ()), ((0,), ())], [((2,), [DO, CUT]), ((0,), [])]))

    def test_keywords(self):
        self.assertEqual(Sufficient(states=[[1]]).states, [[1]])
        found = Insufficient(situation=(0,), events=[DO])
        self.assertEqual((found.situation, found.events), ((0,), [DO]))
        found = Family(protections=[((), ())], runs=[((0,), [DO])])
        self.assertEqual((found.protections, found.runs), ([((), ())], [((0,), [DO])]))
        found = decide(system=SYSTEM, workflow=SET_AND_INCREASE, protection=((), ()), situations=[(2,)], faults=())
        self.assertTrue(found.is_correct(
            system=SYSTEM, workflow=SET_AND_INCREASE, protection=((), ()), situations=[(2,)], faults=()))

    def test_equality(self):
        different = [
            Sufficient([]), Sufficient([[]]), Sufficient([[1]]), Sufficient([[1], []]), Sufficient([[2]]),
            Insufficient((0,), []), Insufficient((1,), []), Insufficient((0,), [DO]), Insufficient((1,), [DO]),
            Family([], []), Family([((), ())], []), Family([], [((0,), [])]), Family([], [((0,), [DO])]),
            Family([((), ())], [((0,), [])]),
        ]
        for index, first in enumerate(different):
            for other, second in enumerate(different):
                self.assertIs(first == second, index == other)
                self.assertIs(first != second, index != other)
            for value in (None, 0, [], first.__dict__, Same(first), "", object()):
                self.assertFalse(first == value)
                self.assertFalse(value == first)
        self.assertEqual(Sufficient([[1]]), Sufficient([[1]]))
        self.assertEqual(Insufficient((0,), [DO]), Insufficient((0,), [DO]))
        self.assertEqual(Family([((), ())], [((0,), [DO])]), Family([((), ())], [((0,), [DO])]))

    def test_equality_uses_the_current_fields(self):
        first, second = Sufficient([[1]]), Sufficient([[1, 2]])
        first.states[0].append(2)
        self.assertEqual(first, second)
        first, second = Insufficient((0,), [DO]), Insufficient((1,), [DO])
        second.situation = (0,)
        self.assertEqual(first, second)
        second.events.append(CUT)
        self.assertNotEqual(first, second)
        first, second = Family([], [((0,), [DO])]), Family([((), ())], [((0,), [])])
        second.protections.pop()
        self.assertNotEqual(first, second)
        second.runs[0][1].append(DO)
        self.assertEqual(first, second)


if __name__ == "__main__":
    unittest.main()

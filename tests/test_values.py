"""Arguments are not changed or kept, results are new, objects compare by their current fields (point 1)."""

import unittest

from retrykeys.costs import Cheapest, cheapest, protection_cost
from retrykeys.deciding import Insufficient, Sufficient, decide, weakest
from retrykeys.encoding import decode_events, encode_events
from retrykeys.executions import Execution
from retrykeys.families import (
    Family, breaches, family, minimal_protections, protections, robust_protections, sufficient_protections,
)
from retrykeys.ordering import Reordered, best_order, equivalent_orders, reorder
from retrykeys.pairs import Interfering, Isolated, decide_pair, initial_joint, next_joint
from retrykeys.records import Explained, Unexplained, examine, possible_situations, record_of
from retrykeys.runs import initial_state, possible_events, replay
from retrykeys.services import commuting, repeatable
from retrykeys.workflows import call_steps, calm_steps
from tests.samples import COUNTER, SET_AND_INCREASE

DO, CUT = ("do",), ("cut",)
SYSTEM = (COUNTER,)
GOOD = (SYSTEM, SET_AND_INCREASE, ((), ()), [(2,), (0,)], ("fall",))
BAD = (SYSTEM, SET_AND_INCREASE, ((), (0,)), [(2,), (0,)], ("fall",))
FAMILY = (SYSTEM, SET_AND_INCREASE, [(2,), (0,)], ("fall",))
READ = (("call", 0, 2, "a"), ("return", "a"))
PRICED = (SYSTEM, SET_AND_INCREASE, [(2,), (0,)], ("loss",), ((3, 5), (1, 1)))
NONES = (((), ()), ((), ()))
APART = (SYSTEM, (READ, READ), NONES, [(2,), (0,)], ("fall",))
TOGETHER = (SYSTEM, (READ, SET_AND_INCREASE), NONES, [(2,), (0,)], ("late",))
TOLD = (SYSTEM, SET_AND_INCREASE, ((), ()), [(2,), (0,)], ("fall",), [("answer", 0, 0), ("fall",)])
UNTOLD = (SYSTEM, SET_AND_INCREASE, ((), ()), [(2,), (0,)], ("fall",), [("answer", 0, 0), ("timeout", 1)])


class Same:
    """Has all fields of all results."""

    def __init__(self, other):
        self.__dict__.update(other.__dict__)


class Values(unittest.TestCase):
    def test_results_are_new_lists(self):
        state = initial_state(SYSTEM, SET_AND_INCREASE, (2,))
        calls = [
            lambda: repeatable(COUNTER), lambda: commuting((((0, 0), (0, 1)),)), lambda: call_steps(SET_AND_INCREASE),
            lambda: calm_steps(SYSTEM, (("call", 0, 2, "a"), ("return", "a"))),
            lambda: possible_events(SYSTEM, SET_AND_INCREASE, ((), ()), ("fall",), state),
            lambda: replay(SYSTEM, SET_AND_INCREASE, ((), ()), (2,), [DO]),
            lambda: weakest(*BAD)[1], lambda: decide(*BAD).events, lambda: decide(*GOOD).states,
            lambda: decide(*GOOD).states[0], lambda: protections(SET_AND_INCREASE),
            lambda: sufficient_protections(*FAMILY), lambda: minimal_protections(*FAMILY),
            lambda: robust_protections(*FAMILY), lambda: breaches(*FAMILY), lambda: family(*FAMILY).protections,
            lambda: family(*FAMILY).runs, lambda: family(*FAMILY).runs[0][1],
            lambda: cheapest(*PRICED).runs, lambda: cheapest(*PRICED).runs[0][1],
            lambda: decide_pair(*APART).states, lambda: decide_pair(*APART).states[1],
            lambda: decide_pair(*TOGETHER).events, lambda: examine(*TOLD).events, lambda: examine(*UNTOLD).states,
            lambda: examine(*UNTOLD).states[1], lambda: possible_situations(*TOLD),
            lambda: record_of(*TOLD[:3], (2,), [DO, CUT]), lambda: equivalent_orders(SYSTEM, READ),
            lambda: decode_events("0002"), lambda: Execution(SYSTEM, READ, ((), ()), (2,)).possible(()),
        ]
        for call in calls:
            first = call()
            self.assertIs(type(first), list)
            self.assertGreater(len(first), 0)
            kept = list(first)
            first.clear()
            self.assertEqual(call(), kept)

    def test_lists_of_one_result_are_different(self):
        states = decide(SYSTEM, (("return", "a"),), ((), ()), [(2,), (0,)], ()).states
        self.assertIsNot(states[0], states[1])
        for runs in (family(*FAMILY).runs, cheapest(*PRICED).runs):
            for index, (_, events) in enumerate(runs):
                for _, others in runs[index + 1:]:
                    self.assertIsNot(events, others)
        for states in (decide_pair(*APART).states, examine(*UNTOLD).states):
            self.assertIsNot(states[0], states[1])

    def test_kinds_of_results(self):
        self.assertIs(type(decide(*GOOD).states), list)
        for states in decide(*GOOD).states:
            self.assertIs(type(states), list)
            self.assertTrue(all(type(state) is tuple for state in states))
        pair = weakest(*BAD)
        self.assertIs(type(pair), tuple)
        self.assertIs(type(pair[0]), tuple)
        for run in family(*FAMILY).runs:
            self.assertEqual([type(item) for item in run], [tuple, list])
        self.assertIs(type(initial_state(SYSTEM, SET_AND_INCREASE, (2,))), tuple)
        found = cheapest(*PRICED)
        self.assertEqual((type(found), type(found.protection), type(found.cost)), (Cheapest, tuple, int))
        for run in found.runs:
            self.assertEqual([type(item) for item in run], [tuple, list])
        self.assertIs(type(protection_cost(SET_AND_INCREASE, ((0,), ()), PRICED[4])), int)
        state = next_joint(SYSTEM, APART[1], NONES, initial_joint(SYSTEM, APART[1], (2,)), (1, DO))
        self.assertEqual([type(item) for item in state], [tuple, tuple, tuple])
        self.assertEqual({type(state) for row in decide_pair(*APART).states for state in row}, {tuple})
        self.assertEqual({type(event) for event in decide_pair(*TOGETHER).events}, {tuple})
        self.assertIs(type(decide_pair(*TOGETHER).situation), tuple)
        self.assertEqual((type(examine(*TOLD).situation), type(examine(*UNTOLD).index)), (tuple, int))
        self.assertEqual({type(state) for row in examine(*UNTOLD).states for state in row}, {tuple})
        self.assertEqual({type(entry) for entry in record_of(*TOLD[:3], (2,), [DO, CUT])}, {tuple})

    def test_arguments_are_not_changed(self):
        situations = [(2,), (0,)]
        events = [DO, CUT, DO, DO]
        decide(SYSTEM, SET_AND_INCREASE, ((), (0,)), situations, ("fall",))
        weakest(SYSTEM, SET_AND_INCREASE, ((), (0,)), situations, ("fall",))
        found = family(SYSTEM, SET_AND_INCREASE, situations, ("fall",))
        found.is_correct(SYSTEM, SET_AND_INCREASE, situations, ("fall",))
        replay(SYSTEM, SET_AND_INCREASE, ((), (0,)), (2,), events)
        self.assertEqual(situations, [(2,), (0,)])
        self.assertEqual(events, [DO, CUT, DO, DO])
        kept = (list(found.protections), [(situation, list(events)) for situation, events in found.runs])
        found.is_correct(SYSTEM, SET_AND_INCREASE, [(1,)], ("loss",))
        self.assertEqual((found.protections, found.runs), kept)

    def test_arguments_of_costs_pairs_and_records_are_not_changed(self):
        situations, events, record = [(2,), (0,)], [DO, CUT, DO], [("answer", 0, 0), ("fall",)]
        cheapest(SYSTEM, SET_AND_INCREASE, situations, ("fall",), PRICED[4]).is_correct(
            SYSTEM, SET_AND_INCREASE, situations, ("fall",), PRICED[4])
        for case in (APART, TOGETHER):
            decide_pair(*case[:3], situations, case[4]).is_correct(*case[:3], situations, case[4])
        record_of(SYSTEM, SET_AND_INCREASE, ((), ()), (2,), events)
        for faults in (("fall",), ()):
            case = (SYSTEM, SET_AND_INCREASE, ((), ()), situations, faults, record)
            examine(*case).is_correct(*case)
            possible_situations(*case)
        self.assertEqual(situations, [(2,), (0,)])
        self.assertEqual(events, [DO, CUT, DO])
        self.assertEqual(record, [("answer", 0, 0), ("fall",)])

    def test_arguments_of_orders_and_events_are_not_changed(self):
        situations, events = [(2,), (0,)], [DO, CUT, DO]
        best_order(SYSTEM, SET_AND_INCREASE, situations, ("fall",), PRICED[4])
        encode_events(events)
        self.assertEqual((situations, events), ([(2,), (0,)], [DO, CUT, DO]))

    def test_arguments_are_not_kept(self):
        situations, record = [(2,), (0,)], [("answer", 0, 0), ("timeout", 1)]
        found = examine(*UNTOLD[:3], situations, UNTOLD[4], record)
        told = examine(*TOLD[:3], situations, TOLD[4], TOLD[5])
        joint = decide_pair(*APART[:3], situations, APART[4])
        priced = cheapest(*PRICED[:2], situations, *PRICED[3:])
        situations.clear()
        record.clear()
        self.assertEqual(found, examine(*UNTOLD))
        self.assertEqual(told, examine(*TOLD))
        self.assertEqual(joint, decide_pair(*APART))
        self.assertEqual(priced, cheapest(*PRICED))

    def test_tuples_and_lists(self):
        """Situations, events and records may be lists or tuples."""
        for kind in (list, tuple):
            self.assertEqual(cheapest(*PRICED[:2], kind(PRICED[2]), *PRICED[3:]), cheapest(*PRICED))
            self.assertEqual(decide_pair(*APART[:3], kind(APART[3]), APART[4]), decide_pair(*APART))
            self.assertTrue(decide_pair(*TOGETHER).is_correct(*TOGETHER[:3], kind(TOGETHER[3]), TOGETHER[4]))
            for case in (TOLD, UNTOLD):
                other = (*case[:3], kind(case[3]), case[4], kind(case[5]))
                self.assertEqual(examine(*other), examine(*case))
                self.assertTrue(examine(*case).is_correct(*other))
                self.assertEqual(possible_situations(*other), possible_situations(*case))
            self.assertEqual(record_of(*TOLD[:3], (2,), kind([DO, CUT])), [("answer", 0, 0), ("fall",)])

    def test_tuples_and_lists_of_orders_and_events(self):
        for kind in (list, tuple):
            found = best_order(SYSTEM, SET_AND_INCREASE, kind([(2,), (0,)]), ("loss",), PRICED[4])
            self.assertEqual(found, Reordered((0, 1), ((1,), ()), 5))
            self.assertEqual(encode_events(kind([DO, CUT])), "0002")

    def test_is_correct_changes_no_fields(self):
        for case in (GOOD, BAD):
            found, other = decide(*case), decide(*case)
            self.assertTrue(found.is_correct(*case))
            self.assertFalse(found.is_correct(*(BAD if case is GOOD else GOOD)))
            self.assertEqual(found, other)
        for function, case, changed in [
            (cheapest, PRICED, (*PRICED[:3], (), PRICED[4])), (decide_pair, APART, (*APART[:4], ())),
            (decide_pair, TOGETHER, (*TOGETHER[:4], ())), (examine, TOLD, (*TOLD[:4], (), TOLD[5])),
            (examine, UNTOLD, (*UNTOLD[:4], ("loss",), UNTOLD[5])),
        ]:
            found, other = function(*case), function(*case)
            self.assertTrue(found.is_correct(*case))
            found.is_correct(*changed)
            self.assertEqual(found, other)

    def test_constructors_copy(self):
        rows = [[1, "x"], [None]]
        found = Sufficient(rows)
        rows[0].append(2)
        rows.append([])
        self.assertEqual(found.states, [[1, "x"], [None]])
        found.states[1].append(3)
        self.assertEqual(rows, [[1, "x", 2], [None], []])
        events = [DO]
        found = Insufficient((2,), events)
        events.append(CUT)
        self.assertEqual(found.events, [DO])
        found.events.clear()
        self.assertEqual(events, [DO, CUT])
        listed, runs = [((), ())], [((2,), [DO])]
        found = Family(listed, runs)
        listed.append(((0,), ()))
        runs[0][1].append(CUT)
        runs.append(((0,), []))
        self.assertEqual((found.protections, found.runs), ([((), ())], [((2,), [DO])]))
        found.runs[0][1].append(DO)
        found.runs.pop()
        found.protections.pop()
        self.assertEqual((listed, runs), ([((), ()), ((0,), ())], [((2,), [DO, CUT]), ((0,), [])]))

    def test_constructors_of_costs_pairs_and_records_copy(self):
        runs = [((2,), [DO])]
        found = Cheapest(((0,), ()), 3, runs)
        runs[0][1].append(CUT)
        runs.append(((0,), []))
        self.assertEqual((found.protection, found.cost, found.runs), (((0,), ()), 3, [((2,), [DO])]))
        found.runs[0][1].append(DO)
        found.runs.pop()
        self.assertEqual(runs, [((2,), [DO, CUT]), ((0,), [])])
        for made in (Isolated, lambda rows: Unexplained(4, rows)):
            rows = [[1, "x"], [None]]
            found = made(rows)
            rows[0].append(2)
            rows.append([])
            self.assertEqual(found.states, [[1, "x"], [None]])
            found.states[1].append(3)
            found.states.pop(0)
            self.assertEqual(rows, [[1, "x", 2], [None], []])
        self.assertEqual(Unexplained(4, []).index, 4)
        for made in (Interfering, Explained):
            events = [DO]
            found = made((2,), events)
            events.append(CUT)
            self.assertEqual((found.situation, found.events), ((2,), [DO]))
            found.events.clear()
            self.assertEqual(events, [DO, CUT])

    def test_constructors_make_lists(self):
        self.assertEqual(Isolated(((1,), ())).states, [[1], []])
        self.assertEqual(Unexplained(0, ((1,), ())).states, [[1], []])
        self.assertEqual(Interfering((2,), (DO,)).events, [DO])
        self.assertEqual(Explained((2,), (DO,)).events, [DO])
        self.assertEqual(Cheapest(((), ()), 0, (((2,), (DO,)),)).runs, [((2,), [DO])])

    def test_keywords_of_costs_pairs_and_records(self):
        found = Cheapest(protection=((), ()), cost=0, runs=[((0,), [DO])])
        self.assertEqual((found.protection, found.cost, found.runs), (((), ()), 0, [((0,), [DO])]))
        self.assertEqual(Isolated(states=[[1]]).states, [[1]])
        self.assertEqual(Unexplained(index=1, states=[[1]]).index, 1)
        self.assertEqual(Interfering(situation=(0,), events=[(0, DO)]).events, [(0, DO)])
        self.assertEqual(Explained(situation=(0,), events=[DO]).events, [DO])
        one = {"system": SYSTEM, "workflow": SET_AND_INCREASE}
        many = {"situations": [(2,), (0,)], "faults": ("fall",)}
        weights = ((0, 0), (0, 0))
        found = cheapest(**one, **many, weights=weights, containing=((), (0,)))
        self.assertTrue(found.is_correct(**one, **many, weights=weights, containing=((), (0,))))
        self.assertEqual(protection_cost(workflow=SET_AND_INCREASE, protection=((), ()), weights=weights), 0)
        two = {"system": SYSTEM, "workflows": APART[1]}
        state = initial_joint(**two, situation=(2,))
        self.assertIsNotNone(next_joint(**two, protections=NONES, state=state, event=(0, DO)))
        self.assertTrue(decide_pair(**two, protections=NONES, **many).is_correct(**two, protections=NONES, **many))
        many.update(protection=((), ()))
        self.assertEqual(record_of(**one, protection=((), ()), situation=(2,), events=[CUT]), [("fall",)])
        for record in TOLD[5], UNTOLD[5]:
            self.assertTrue(examine(**one, **many, record=record).is_correct(**one, **many, record=record))
        self.assertEqual(possible_situations(**one, **many, record=TOLD[5]), possible_situations(*TOLD))

    def test_keywords_of_orders(self):
        found = Reordered(order=(0,), protection=((), ()), cost=0)
        self.assertEqual((found.order, found.protection, found.cost), ((0,), ((), ()), 0))
        case = {"system": SYSTEM, "workflow": SET_AND_INCREASE}
        self.assertEqual(equivalent_orders(**case), [(0, 1)])
        found = best_order(**case, situations=[(2,)], faults=("loss",), weights=PRICED[4])
        self.assertEqual([type(field) for field in (found.order, found.protection, found.cost)], [tuple, tuple, int])
        self.assertEqual(reorder(workflow=READ, order=(0,)), READ)

    def test_keywords(self):
        self.assertEqual(Sufficient(states=[[1]]).states, [[1]])
        found = Insufficient(situation=(0,), events=[DO])
        self.assertEqual((found.situation, found.events), ((0,), [DO]))
        found = Family(protections=[((), ())], runs=[((0,), [DO])])
        self.assertEqual((found.protections, found.runs), ([((), ())], [((0,), [DO])]))
        found = decide(system=SYSTEM, workflow=SET_AND_INCREASE, protection=((), ()), situations=[(2,)], faults=())
        self.assertTrue(found.is_correct(
            system=SYSTEM, workflow=SET_AND_INCREASE, protection=((), ()), situations=[(2,)], faults=()))

    def test_equality(self):
        different = [
            Sufficient([]), Sufficient([[]]), Sufficient([[1]]), Sufficient([[1], []]), Sufficient([[2]]),
            Insufficient((0,), []), Insufficient((1,), []), Insufficient((0,), [DO]), Insufficient((1,), [DO]),
            Family([], []), Family([((), ())], []), Family([], [((0,), [])]), Family([], [((0,), [DO])]),
            Family([((), ())], [((0,), [])]),
            Cheapest(((), ()), 0, []), Cheapest(((), ()), 1, []), Cheapest(((0,), ()), 0, []),
            Cheapest(((), ()), 0, [((0,), [])]), Cheapest(((), ()), 0, [((0,), [DO])]),
            Isolated([]), Isolated([[]]), Isolated([[1]]), Isolated([[1], []]), Isolated([[2]]),
            Interfering((0,), []), Interfering((1,), []), Interfering((0,), [DO]), Interfering((1,), [DO]),
            Explained((0,), []), Explained((1,), []), Explained((0,), [DO]), Explained((1,), [DO]),
            Unexplained(0, []), Unexplained(1, []), Unexplained(0, [[]]), Unexplained(0, [[1]]), Unexplained(1, [[1]]),
            Reordered((0,), ((), ()), 0), Reordered((0,), ((), ()), 1), Reordered((0,), ((0,), ()), 0),
            Reordered((), ((), ()), 0), Reordered((1, 0), ((0,), ()), 1),
        ]
        for index, first in enumerate(different):
            for other, second in enumerate(different):
                self.assertIs(first == second, index == other)
                self.assertIs(first != second, index != other)
            for value in (None, 0, [], first.__dict__, Same(first), "", object()):
                self.assertFalse(first == value)
                self.assertFalse(value == first)
        self.assertEqual(Sufficient([[1]]), Sufficient([[1]]))
        self.assertEqual(Insufficient((0,), [DO]), Insufficient((0,), [DO]))
        self.assertEqual(Family([((), ())], [((0,), [DO])]), Family([((), ())], [((0,), [DO])]))
        self.assertEqual(Cheapest(((), ()), 0, [((0,), [DO])]), Cheapest(((), ()), 0, [((0,), [DO])]))
        self.assertEqual(Isolated([[1]]), Isolated([[1]]))
        self.assertEqual(Interfering((0,), [DO]), Interfering((0,), [DO]))
        self.assertEqual(Explained((0,), [DO]), Explained((0,), [DO]))
        self.assertEqual(Unexplained(1, [[1]]), Unexplained(1, [[1]]))
        self.assertEqual(Reordered((1, 0), ((0,), ()), 1), Reordered((1, 0), ((0,), ()), 1))

    def test_equality_uses_the_current_fields(self):
        first, second = Sufficient([[1]]), Sufficient([[1, 2]])
        first.states[0].append(2)
        self.assertEqual(first, second)
        first, second = Insufficient((0,), [DO]), Insufficient((1,), [DO])
        second.situation = (0,)
        self.assertEqual(first, second)
        second.events.append(CUT)
        self.assertNotEqual(first, second)
        first, second = Family([], [((0,), [DO])]), Family([((), ())], [((0,), [])])
        second.protections.pop()
        self.assertNotEqual(first, second)
        second.runs[0][1].append(DO)
        self.assertEqual(first, second)
        first, second = Cheapest(((), ()), 0, [((0,), [])]), Cheapest(((0,), ()), 1, [((0,), [DO])])
        second.protection = ((), ())
        self.assertNotEqual(first, second)
        second.cost = 0
        self.assertNotEqual(first, second)
        first.runs[0][1].append(DO)
        self.assertEqual(first, second)
        first, second = Isolated([[1]]), Isolated([[1, 2]])
        first.states[0].append(2)
        self.assertEqual(first, second)
        for made in (Interfering, Explained):
            first, second = made((0,), [DO]), made((1,), [])
            second.situation = (0,)
            self.assertNotEqual(first, second)
            second.events.append(DO)
            self.assertEqual(first, second)
        first, second = Unexplained(0, [[1]]), Unexplained(1, [[1, 2]])
        second.index = 0
        self.assertNotEqual(first, second)
        second.states[0].pop()
        self.assertEqual(first, second)
        first, second = Reordered((0, 1), ((), ()), 0), Reordered((1, 0), ((0,), ()), 1)
        second.order, second.protection = (0, 1), ((), ())
        self.assertNotEqual(first, second)
        second.cost = 0
        self.assertEqual(first, second)


if __name__ == "__main__":
    unittest.main()

"""Wrong inputs: exactly the stated error of each function, and the first one of two."""

import itertools
import unittest

from retrykeys import errors
from retrykeys.costs import Cheapest, cheapest, protection_cost
from retrykeys.deciding import Insufficient, Sufficient, decide, tolerance, weakest
from retrykeys.encoding import decode_events, encode_events
from retrykeys.executions import Execution
from retrykeys.families import (
    Family, breaches, family, minimal_protections, protections, robust_protections, sufficient_protections,
)
from retrykeys.ordering import best_order, equivalent_orders, reorder
from retrykeys.pairs import Interfering, Isolated, decide_pair, initial_joint, next_joint
from retrykeys.records import Explained, Unexplained, examine, possible_situations, record_of
from retrykeys.runs import initial_state, next_state, possible_events, replay
from retrykeys.services import commuting, execute, repeatable
from retrykeys.texts import read, written
from retrykeys.workflows import call_steps, calm_steps, plain
from tests import wrong
from tests.samples import COUNTER, SET_AND_INCREASE, SWITCH, TRIVIAL

END = ("return", "a")
SYSTEM = (COUNTER,)
PROTECTION = ((1,), (0,))
STATE = ((2,), ((1, 3),), 1, (("a", 0), ("b", 9)), (2, (("a", 7), ("b", 0))), (0,), None)
FOUR_CALLS = (("call", 0, 0, "a"),) * 4 + (END,)

WRONG_WORKFLOWS = wrong.WORKFLOWS + wrong.UNFIT[SYSTEM]
# For each kind of argument: the error, a good value, the wrong values.
SYSTEMS = ("InvalidSystem", SYSTEM, wrong.SYSTEMS)
WORKFLOWS = ("InvalidWorkflow", SET_AND_INCREASE, WRONG_WORKFLOWS)
LONE_WORKFLOWS = ("InvalidWorkflow", SET_AND_INCREASE, wrong.WORKFLOWS)
LARGE = ("TooLarge", SET_AND_INCREASE, [FOUR_CALLS])
PROTECTIONS = ("InvalidProtection", PROTECTION, wrong.protections([0, 1], 3))
SITUATION = ("InvalidSituation", (2,), wrong.situations(SYSTEM))
SITUATIONS = ("InvalidSituation", [(2,), (0,)], wrong.situation_lists(SYSTEM))
FAULTS = ("InvalidFaults", ("fall", "loss"), wrong.FAULTS)
STATES = ("InvalidState", STATE, wrong.states(STATE))
WEIGHTS = ("InvalidWeights", ((0, 1000), (7, 0)), wrong.WEIGHTS)
RECORDS = ("InvalidRecord", [("timeout", 0), ("answer", 1, 9), ("return", 0), ("fall",)], wrong.RECORDS)
EVENT_LISTS = ("InvalidEvent", [("do",)], [None, 0, "", "do", {}, ("do",), [("late", 0)], [None], [["do"]]])

READ = (("call", 0, 2, "a"), END)
INCREASE = (("call", 0, 1, "a"), END)
THREE_CALLS = FOUR_CALLS[1:]
NO_PAIRS = wrong.ANYTHING + [[READ, INCREASE], (READ,), (READ, INCREASE, READ), {0: READ, 1: INCREASE}, READ]
JOINT = ((2,), ((), 0, (("a", 7),), (1, (("a", 9),)), (0,), None), (((0, 3),), 1, (("a", 0),), (0, (("a", 5),)), (), None))
PAIRS_OF_WORKFLOWS = ("InvalidWorkflow", (READ, INCREASE), NO_PAIRS + [(READ, THREE_CALLS, READ)] + [
    pair for bad in WRONG_WORKFLOWS for pair in ((READ, bad), (bad, INCREASE))
] + [(THREE_CALLS, WRONG_WORKFLOWS[0]), (WRONG_WORKFLOWS[0], THREE_CALLS)])
LARGE_PAIRS = ("TooLarge", (READ, INCREASE), [(THREE_CALLS, READ), (READ, THREE_CALLS), (FOUR_CALLS, FOUR_CALLS)])
PAIRS_OF_PROTECTIONS = ("InvalidProtection", (((), (0,)), ((0,), ())), wrong.ANYTHING + [
    [((), ()), ((), ())], (((), ()),), (((), ()),) * 3, {0: ((), ()), 1: ((), ())}, ((), ()),
] + [pair for bad in wrong.protections([0], 2) for pair in ((((), ()), bad), (bad, ((), ())))])
JOINT_STATES = ("InvalidState", JOINT, wrong.joint_states(JOINT))

CROOKED = ("InvalidWorkflow", SET_AND_INCREASE, wrong.CROOKED)
ORDERS = ("InvalidOrder", (1, 0), wrong.ORDERS)
EVENTS = ("InvalidEvent", ("do",), wrong.EVENTS)
EVENT_FORMS = ("InvalidEvent", [("late", 9)], [None, 0, "", "do", {}, ("do",), [None], [["do"]], [("late", True)]])
TEXTS = ("ParseError", "service\n  0/0\nworkflow\n  return a\nkeys\ncheckpoints\n", wrong.NO_TEXTS + ["", "service\n"])
CODES = ("DecodeError", "0d", wrong.NO_TEXTS + ["0", "0e", "0D", " 00"])

# For each function: the arguments, in the order of the checks, each with its place among the parameters.
# An argument may be checked twice (a workflow may be invalid, or too large).
FUNCTIONS = {
    call_steps: [(0, LONE_WORKFLOWS)],
    plain: [(0, SYSTEMS), (1, WORKFLOWS), (2, SITUATION)],
    calm_steps: [(0, SYSTEMS), (1, WORKFLOWS)],
    initial_state: [(0, SYSTEMS), (1, WORKFLOWS), (2, SITUATION)],
    next_state: [(0, SYSTEMS), (1, WORKFLOWS), (2, PROTECTIONS), (3, STATES), (4, (None, ("do",), wrong.EVENTS))],
    possible_events: [(0, SYSTEMS), (1, WORKFLOWS), (2, PROTECTIONS), (3, FAULTS), (4, STATES)],
    replay: [(0, SYSTEMS), (1, WORKFLOWS), (2, PROTECTIONS), (3, SITUATION), (4, EVENT_LISTS)],
    protections: [(0, LONE_WORKFLOWS), (0, LARGE)],
    protection_cost: [(0, LONE_WORKFLOWS), (1, PROTECTIONS), (2, WEIGHTS)],
    initial_joint: [(0, SYSTEMS), (1, PAIRS_OF_WORKFLOWS), (1, LARGE_PAIRS), (2, SITUATION)],
    next_joint: [(0, SYSTEMS), (1, PAIRS_OF_WORKFLOWS), (1, LARGE_PAIRS), (2, PAIRS_OF_PROTECTIONS),
                 (3, JOINT_STATES), (4, (None, (0, ("do",)), wrong.EVENTS))],
    record_of: [(0, SYSTEMS), (1, WORKFLOWS), (2, PROTECTIONS), (3, SITUATION), (4, EVENT_LISTS)],
    Execution: [(0, SYSTEMS), (1, WORKFLOWS), (2, PROTECTIONS), (3, SITUATION)],
    reorder: [(0, LONE_WORKFLOWS), (0, CROOKED), (1, ORDERS)],
    equivalent_orders: [(0, SYSTEMS), (1, WORKFLOWS), (1, CROOKED)],
    best_order: [(0, SYSTEMS), (1, WORKFLOWS), (1, CROOKED), (2, SITUATIONS), (3, FAULTS), (4, WEIGHTS)],
    written: [(0, SYSTEMS), (1, WORKFLOWS), (2, PROTECTIONS)],
    read: [(0, TEXTS)],
    encode_events: [(0, EVENT_FORMS)],
    decode_events: [(0, CODES)],
}
DECISION = [(0, SYSTEMS), (1, WORKFLOWS), (2, PROTECTIONS), (3, SITUATIONS), (4, FAULTS)]
SUFFICIENT = Sufficient([[STATE]])
INSUFFICIENT = Insufficient((2,), [("do",), ("late", 0)])


def sufficient_is_correct(*arguments):
    return SUFFICIENT.is_correct(*arguments)


def insufficient_is_correct(*arguments):
    return INSUFFICIENT.is_correct(*arguments)


def family_is_correct(*arguments):
    return Family([((), ())], [((2,), [("do",)])]).is_correct(*arguments)


def cheapest_that_contains(*arguments):
    return cheapest(*arguments[:5], containing=arguments[5])


def cheapest_is_correct(*arguments):
    return Cheapest(((), ()), 0, [((2,), [("do",)])]).is_correct(*arguments[:5], containing=arguments[5])


def isolated_is_correct(*arguments):
    return Isolated([[JOINT]]).is_correct(*arguments)


def interfering_is_correct(*arguments):
    return Interfering((2,), [(0, ("do",))]).is_correct(*arguments)


def explained_is_correct(*arguments):
    return Explained((2,), [("do",)]).is_correct(*arguments)


def unexplained_is_correct(*arguments):
    return Unexplained(0, [[STATE]]).is_correct(*arguments)


def execution():
    return Execution(SYSTEM, SET_AND_INCREASE, PROTECTION, (2,))


def execution_possible(faults):
    return execution().possible(faults)


def execution_apply(event):
    return execution().apply(event)


FUNCTIONS[execution_possible] = [(0, FAULTS)]
FUNCTIONS[execution_apply] = [(0, EVENTS)]
CHEAPEST = [(0, SYSTEMS), (1, WORKFLOWS), (1, LARGE), (2, SITUATIONS), (3, FAULTS), (4, WEIGHTS)]
PAIR = [(0, SYSTEMS), (1, PAIRS_OF_WORKFLOWS), (1, LARGE_PAIRS), (2, PAIRS_OF_PROTECTIONS), (3, SITUATIONS), (4, FAULTS)]
FUNCTIONS[cheapest] = CHEAPEST
FUNCTIONS[Cheapest(((), ()), 0, []).is_correct] = CHEAPEST
for function in (cheapest_that_contains, cheapest_is_correct):
    FUNCTIONS[function] = CHEAPEST + [(5, PROTECTIONS)]
for function in (decide_pair, isolated_is_correct, interfering_is_correct):
    FUNCTIONS[function] = PAIR
for function in (examine, possible_situations, explained_is_correct, unexplained_is_correct):
    FUNCTIONS[function] = DECISION + [(5, RECORDS)]
for function in (decide, weakest, tolerance, sufficient_is_correct, insufficient_is_correct):
    FUNCTIONS[function] = DECISION
for function in (sufficient_protections, minimal_protections, robust_protections, breaches, family, family_is_correct):
    FUNCTIONS[function] = [(0, SYSTEMS), (1, WORKFLOWS), (1, LARGE), (2, SITUATIONS), (3, FAULTS)]


def good_arguments(checks):
    return {place: good for place, (_, good, _) in reversed(checks)}


def some(values):
    """A few of the wrong values, of different forms."""
    return values[::max(1, len(values) // 6)]


class Wrong(unittest.TestCase):
    def fails(self, name, function, arguments):
        """The call raises exactly this error, and no subclass of it."""
        values = [arguments[place] for place in sorted(arguments)]
        with self.assertRaises(errors.RetryError, msg=(function, values)) as caught:
            function(*values)
        self.assertEqual(type(caught.exception).__name__, name, (function, values))

    def test_good(self):
        for function, checks in FUNCTIONS.items():
            arguments = good_arguments(checks)
            function(*[arguments[place] for place in sorted(arguments)])

    def test_one_wrong_argument(self):
        for function, checks in FUNCTIONS.items():
            for place, (name, _, values) in checks:
                for value in values if name else ():
                    self.fails(name, function, {**good_arguments(checks), place: value})

    def test_the_first_of_two(self):
        for function, checks in FUNCTIONS.items():
            for (first, (name, _, values)), (second, (_, _, others)) in itertools.combinations(checks, 2):
                for value, other in itertools.product(some(values), some(others)):
                    if first != second:
                        self.fails(name, function, {**good_arguments(checks), first: value, second: other})

    def test_all_are_wrong(self):
        for function, checks in FUNCTIONS.items():
            for many in range(len(checks)):
                arguments = good_arguments(checks)
                for place, (error, _, values) in checks[many:]:
                    if error != "TooLarge":
                        arguments[place] = values[0]
                name = checks[many][1][0]
                if name not in (None, "TooLarge"):
                    self.fails(name, function, arguments)

    def test_what_the_system_does_not_have(self):
        system = (SWITCH, TRIVIAL)
        for workflow in wrong.UNFIT[system]:
            self.fails("InvalidWorkflow", plain, dict(enumerate([system, workflow, (0, 0)])))
            self.fails("InvalidWorkflow", decide, dict(enumerate([system, workflow, None, [(0, 0)], ()])))
            self.fails("InvalidWorkflow", family, dict(enumerate([system, workflow, [(0, 0)], ()])))
            self.fails("InvalidWorkflow", Execution, dict(enumerate([system, workflow, None, (0, 0)])))
            self.fails("InvalidWorkflow", written, dict(enumerate([system, workflow, None])))
            self.fails("InvalidWorkflow", equivalent_orders, dict(enumerate([system, workflow])))
            self.assertEqual(call_steps(workflow), [at for at, step in enumerate(workflow) if step[0] == "call"])

    def test_situations_of_two_services(self):
        system = (COUNTER, TRIVIAL)
        for bad in wrong.situations(system):
            self.fails("InvalidSituation", plain, dict(enumerate([system, (END,), bad])))
        for bad in wrong.situation_lists(system):
            self.fails("InvalidSituation", decide, dict(enumerate([system, (END,), ((), ()), bad, ()])))

    def test_four_situations_are_the_most(self):
        system = (COUNTER, SWITCH)
        every = [(first, second) for first in range(3) for second in range(2)]
        for many in range(1, 7):
            for kind in (list, tuple):
                arguments = [system, (END,), ((), ()), kind(every[:many]), ()]
                if many <= 4:
                    self.assertEqual(len(decide(*arguments).states), many)
                else:
                    self.fails("InvalidSituation", decide, dict(enumerate(arguments)))

    def test_protections_of_a_workflow_without_calls(self):
        for bad in wrong.protections([], 1):
            self.fails("InvalidProtection", replay, dict(enumerate([SYSTEM, (END,), bad, (0,), []])))
        self.assertEqual(len(replay(SYSTEM, (END,), ((), ()), (0,), [])), 1)

    def test_every_protection(self):
        rows = [tuple(row) for many in range(4) for row in itertools.product(range(3), repeat=many)]
        good = [(), (0,), (1,), (0, 1)]
        for keys, checkpoints in itertools.product(rows, repeat=2):
            if keys in good and checkpoints in good:
                replay(SYSTEM, SET_AND_INCREASE, (keys, checkpoints), (0,), [])
            else:
                arguments = [SYSTEM, SET_AND_INCREASE, (keys, checkpoints), (0,), []]
                self.fails("InvalidProtection", replay, dict(enumerate(arguments)))

    def test_every_set_of_faults(self):
        classes = ["fall", "late", "loss"]
        for many in range(5):
            for faults in itertools.product(classes, repeat=many):
                arguments = [SYSTEM, SET_AND_INCREASE, PROTECTION, faults, STATE]
                if list(faults) == sorted(set(faults)):
                    possible_events(*arguments)
                else:
                    self.fails("InvalidFaults", possible_events, dict(enumerate(arguments)))

    def test_states_depend_on_the_keys(self):
        for keys in [(), (0,), (1,), (0, 1)]:
            for remembered, sent in itertools.product([(), (0,), (1,), (0, 1)], repeat=2):
                state = wrong.replaced(STATE, 1, tuple((step, 5) for step in remembered))
                state = wrong.replaced(state, 5, sent)
                arguments = [SYSTEM, SET_AND_INCREASE, (keys, ()), state, ("fall",)]
                if set(remembered) <= set(keys) and not set(sent) & set(keys):
                    self.assertIsNotNone(next_state(*arguments))
                else:
                    self.fails("InvalidState", next_state, dict(enumerate(arguments)))

    def test_states_need_not_be_reachable(self):
        saved = (2, (("a", 9), ("b", 9)))
        state = ((1,), ((0, 9),), None, (("a", 8), ("b", 7)), saved, (), 3)
        after = next_state(SYSTEM, SET_AND_INCREASE, ((0,), (0,)), state, ("do",))
        self.assertIsNone(after)
        state = ((1,), ((0, 9),), 0, (("a", 8), ("b", 7)), saved, (1,), None)
        after = next_state(SYSTEM, SET_AND_INCREASE, ((0,), (0,)), state, ("do",))
        self.assertEqual(after, ((1,), ((0, 9),), 1, (("a", 9), ("b", 7)), (1, (("a", 9), ("b", 7))), (1,), None))

    def test_services(self):
        for bad in wrong.SERVICES:
            self.fails("InvalidSystem", execute, {0: bad, 1: 9, 2: 9})
            for function in (repeatable, commuting):
                self.fails("InvalidSystem", function, {0: bad})

    def test_a_refused_call_changes_nothing(self):
        situations, events = [(2,), (2,)], [("do",), ("do",), ("late", 5)]
        self.fails("InvalidSituation", decide, dict(enumerate([SYSTEM, SET_AND_INCREASE, PROTECTION, situations, ()])))
        self.fails("InvalidEvent", replay, dict(enumerate([SYSTEM, SET_AND_INCREASE, PROTECTION, (2,), events])))
        self.assertEqual(situations, [(2,), (2,)])
        self.assertEqual(events, [("do",), ("do",), ("late", 5)])
        self.assertEqual(SUFFICIENT.states, [[STATE]])
        self.assertEqual((INSUFFICIENT.situation, INSUFFICIENT.events), ((2,), [("do",), ("late", 0)]))


if __name__ == "__main__":
    unittest.main()

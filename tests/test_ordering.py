"""Orders of straight workflows (point 20)."""

import itertools
import random
import unittest

from retrykeys.costs import cheapest
from retrykeys.errors import InvalidOrder, InvalidWorkflow
from retrykeys.ordering import Reordered, best_order, equivalent_orders, reorder
from tests import oracle, samples, wrong
from tests.samples import COUNTER, INCREASE, READ_AND_INCREASE, SET_AND_INCREASE, SWITCH, TRIVIAL

ONE = (COUNTER,)
NONE = ((), ())
EVERY = ("fall", "late", "loss")
END = ("return", "z")
# Calls 0 and 1 go up and down between the states 0 and 3; call 2 reads; all but the reading answer 0.
STAIRS = tuple(((min(state + 1, 3), 0), (max(state - 1, 0), 0), (state, state)) for state in range(4))
# Call 0 reads, call 1 changes the state 3 only.
LAST = (((0, 0), (0, 0)), ((1, 1), (1, 0)), ((2, 2), (2, 0)), ((3, 3), (2, 0)))


def calls(*numbers):
    """A straight workflow that makes calls of the service 0 and returns 0."""
    return tuple(("call", 0, number, letter) for number, letter in zip(numbers, "abc")) + (END,)


class Reorder(unittest.TestCase):
    def test_by_hand(self):
        first, second, third = ("call", 0, 1, "a"), ("call", 1, 2, "b"), ("call", 0, 0, "a")
        workflow = (first, second, third, END)
        self.assertEqual(reorder(workflow, (0, 1, 2)), workflow)
        self.assertEqual(reorder(workflow, (0, 2, 1)), (first, third, second, END))
        # The first item of an order is the index of the step that is executed first.
        self.assertEqual(reorder(workflow, (1, 2, 0)), (second, third, first, END))
        self.assertEqual(reorder(workflow, (2, 0, 1)), (third, first, second, END))
        self.assertEqual(reorder((first, second, END), (1, 0)), (second, first, END))
        self.assertEqual(reorder((first, END), (0,)), (first, END))
        self.assertEqual(reorder((END,), ()), (END,))
        self.assertEqual(reorder(workflow=(first, second, END), order=(1, 0)), (second, first, END))
        # Nothing is asked of a system here.
        self.assertEqual(reorder((("call", 1, 2, "z"), END), (0,)), (("call", 1, 2, "z"), END))

    def test_kinds(self):
        found = reorder(SET_AND_INCREASE, (1, 0))
        self.assertIs(type(found), tuple)
        self.assertEqual({type(step) for step in found}, {tuple})

    def test_every_order(self):
        workflow = calls(0, 1, 2)
        found = {reorder(workflow, order) for order in itertools.permutations(range(3))}
        self.assertEqual(len(found), 6)

    def test_what_is_not_an_order(self):
        for many in range(4):
            workflow = calls(*range(many))
            good = list(itertools.permutations(range(many)))
            for order in good:
                self.assertEqual(reorder(workflow, order), oracle.rearranged(workflow, order))
            for length in range(5):
                for order in itertools.product(range(-1, 4), repeat=length):
                    if order not in good:
                        self.assertRaises(InvalidOrder, reorder, workflow, order)
        for order in wrong.ORDERS:
            self.assertRaises(InvalidOrder, reorder, SET_AND_INCREASE, order)

    def test_what_is_not_straight(self):
        for workflow in wrong.CROOKED:
            self.assertRaises(InvalidWorkflow, reorder, workflow, (0,))
            self.assertRaises(InvalidWorkflow, reorder, workflow, None)
            self.assertRaises(InvalidWorkflow, equivalent_orders, ONE, workflow)
            self.assertRaises(InvalidWorkflow, best_order, ONE, workflow, None, None, None)

    def test_random(self):
        for rng, workflow, _ in straight(20, 200):
            order = tuple(rng.sample(range(len(workflow) - 1), len(workflow) - 1))
            self.assertEqual(reorder(workflow, order), oracle.rearranged(workflow, order))
            # The order that takes the steps back.
            back = tuple(order.index(step) for step in range(len(order)))
            self.assertEqual(reorder(reorder(workflow, order), back), workflow)


def straight(seed, many, most=3):
    """Random straight workflows with the systems that they fit."""
    rng = random.Random(seed)
    for _ in range(many):
        system = samples.random_system(rng)
        steps = []
        letters = rng.choice(["a", "ab", "abc"])
        for _ in range(rng.choice([0] + 3 * list(range(1, most + 1)))):
            service = rng.randrange(len(system))
            steps.append(("call", service, rng.randrange(len(system[service][0])), rng.choice(letters)))
        yield rng, (*steps, ("return", rng.choice(letters + "z"))), system


def settled(seed, many):
    """Straight workflows on services that forget what has been before, with results that do not depend on it."""
    rng = random.Random(seed)
    for _ in range(many):
        size = rng.choice([2, 3])
        target = rng.randrange(size)
        change = [rng.randrange(size) for _ in range(size)]
        service = tuple(((target, 0), (change[state], 0), ((state + 1) % size, 0)) for state in range(size))
        numbers = rng.choice([(0, 1, 1), (0, 2, 2), (0, 1, 2), (1, 0, 2), (0, 0, 1), (0, 1)])
        yield rng, calls(*numbers), (service, TRIVIAL)[:rng.randint(1, 2)]


class Equivalent(unittest.TestCase):
    def test_by_hand(self):
        self.assertEqual(equivalent_orders(ONE, SET_AND_INCREASE), [(0, 1)])
        self.assertEqual(equivalent_orders(ONE, READ_AND_INCREASE), [(0, 1)])
        self.assertEqual(equivalent_orders(ONE, INCREASE), [(0,)])
        self.assertEqual(equivalent_orders(ONE, (END,)), [()])
        # Two increases and the set: it stands first, in the middle, or last.
        self.assertEqual(equivalent_orders(ONE, calls(1, 0, 1)), [(0, 1, 2), (2, 1, 0)])
        self.assertEqual(equivalent_orders(ONE, calls(0, 1, 1)), [(0, 1, 2), (0, 2, 1)])
        self.assertEqual(equivalent_orders(ONE, calls(1, 1, 0)), [(0, 1, 2), (1, 0, 2)])
        # Three times increased is not changed at all, and nobody reads the answers.
        self.assertEqual(equivalent_orders(ONE, calls(1, 1, 1)), list(itertools.permutations(range(3))))

    def test_answers_count_if_they_are_returned(self):
        workflow = (("call", 0, 1, "a"), ("call", 0, 1, "b"), ("return", "a"))
        self.assertEqual(equivalent_orders(ONE, workflow), [(0, 1)])
        workflow = (("call", 0, 1, "a"), ("call", 0, 1, "b"), ("return", "c"))
        self.assertEqual(equivalent_orders(ONE, workflow), [(0, 1), (1, 0)])
        # Both assign to one name: the order of two equal steps does not matter.
        workflow = (("call", 0, 1, "a"), ("call", 0, 1, "a"), ("return", "a"))
        self.assertEqual(equivalent_orders(ONE, workflow), [(0, 1), (1, 0)])
        # Set, and read a 0; or read anything, then set, which answers 0.
        workflow = (("call", 0, 0, "a"), ("call", 0, 2, "a"), ("call", 0, 1, "b"), ("return", "a"))
        self.assertEqual(equivalent_orders(ONE, workflow), [(0, 1, 2), (1, 0, 2)])
        # Increased, the answer is what is read afterwards, too.
        workflow = (("call", 0, 2, "a"), ("call", 0, 1, "a"), ("return", "a"))
        self.assertEqual(equivalent_orders(ONE, workflow), [(0, 1), (1, 0)])
        workflow = (("call", 0, 1, "a"), ("call", 0, 2, "b"), ("return", "b"))
        self.assertEqual(equivalent_orders(ONE, workflow), [(0, 1)])

    def test_two_services(self):
        workflow = (("call", 0, 1, "a"), ("call", 1, 2, "b"), ("return", "a"))
        self.assertEqual(equivalent_orders((COUNTER, SWITCH), workflow), [(0, 1), (1, 0)])
        # Both answers have one name: the one that is assigned last is returned.
        workflow = (("call", 0, 1, "a"), ("call", 1, 2, "a"), ("return", "a"))
        self.assertEqual(equivalent_orders((COUNTER, SWITCH), workflow), [(0, 1)])
        workflow = (("call", 0, 1, "a"), ("call", 1, 0, "a"), ("call", 1, 2, "b"), ("return", "a"))
        self.assertEqual(equivalent_orders((COUNTER, SWITCH), workflow), [(0, 1, 2)])

    def test_orders_that_differ_from_few_situations_only(self):
        # Up and down is like down and up, but not at both ends of the stairs.
        self.assertEqual(equivalent_orders((STAIRS,), calls(0, 1)), [(0, 1)])
        self.assertEqual(equivalent_orders((STAIRS, TRIVIAL), calls(0, 1)), [(0, 1)])
        # Reading and changing: only from the state 3, the answers differ.
        workflow = (("call", 0, 0, "a"), ("call", 0, 1, "b"), ("return", "a"))
        self.assertEqual(equivalent_orders((LAST,), workflow), [(0, 1)])
        self.assertEqual(equivalent_orders((LAST,), workflow[:2] + (("return", "b"),)), [(0, 1), (1, 0)])
        self.assertEqual(equivalent_orders((LAST[:3],), workflow), [(0, 1), (1, 0)])
        # The same in the second service, which the first one has nothing to do with.
        workflow = (("call", 1, 0, "a"), ("call", 1, 1, "b"), ("call", 0, 0, "c"), ("return", "a"))
        self.assertEqual(equivalent_orders((TRIVIAL, LAST), workflow), [(0, 1, 2), (0, 2, 1), (2, 0, 1)])

    def test_random(self):
        many = []
        for _, workflow, system in straight(201, 600):
            found = equivalent_orders(system, workflow)
            self.assertEqual(found, oracle.equivalent(system, workflow))
            self.assertIn(tuple(range(len(workflow) - 1)), found)
            self.assertEqual({type(order) for order in found}, {tuple})
            many.append(len(found))
        self.assertTrue({1, 2, 3, 4, 6} <= set(many))


class Best(unittest.TestCase):
    def found(self, case, order, protection, cost):
        found = best_order(*case)
        self.assertIs(type(found), Reordered)
        self.assertEqual((found.order, found.protection, found.cost), (order, protection, cost))
        return found

    def test_an_order_that_is_cheaper_than_the_first_one(self):
        # Off, and flipped twice: off again. If it is turned off last, repeated flips do no harm.
        workflow = calls(0, 2, 2)
        weights = ((5, 1, 2), (7, 8, 9))
        self.assertEqual(equivalent_orders((SWITCH,), workflow), [(0, 1, 2), (0, 2, 1), (1, 2, 0), (2, 1, 0)])
        self.assertEqual(cheapest((SWITCH,), workflow, [(0,)], ("loss",), weights).cost, 3)
        self.found(((SWITCH,), workflow, [(0,)], ("loss",), weights), (1, 2, 0), NONE, 0)
        self.found(((SWITCH,), workflow, [(0,), (1,)], ("fall", "loss"), weights), (1, 2, 0), NONE, 0)
        # Late flips do harm, behind the last step too. Then the key on the other step is saved.
        self.assertEqual(cheapest((SWITCH,), workflow, [(0,)], ("late",), weights).cost, 8)
        self.found(((SWITCH,), workflow, [(0,)], ("late",), weights), (1, 2, 0), ((0, 1), ()), 3)

    def test_the_first_order_if_none_is_cheaper(self):
        workflow = calls(0, 2, 2)
        self.found(((SWITCH,), workflow, [(0,)], (), ((1, 1, 1), (1, 1, 1))), (0, 1, 2), NONE, 0)
        self.found(((SWITCH,), workflow, [(0,)], EVERY, ((0, 0, 0), (0, 0, 0))), (0, 1, 2), ((0, 1, 2), ()), 0)
        # With nothing on the step that turns off, all orders cost the same.
        self.found(((SWITCH,), workflow, [(0,)], ("late",), ((0, 1, 2), (0, 0, 0))), (0, 1, 2), ((0, 1, 2), ()), 3)

    def test_costs_move_with_the_steps(self):
        # An increase and a read of two services; each order is equivalent, and only the increase needs a key.
        workflow = (("call", 0, 2, "a"), ("call", 1, 2, "b"), ("return", "z"))
        system = (COUNTER, SWITCH)
        self.found((system, workflow, [(0, 0)], EVERY, ((3, 4), (1, 2))), (0, 1), ((1,), ()), 4)
        # Here the cheap key and the dear one change places with the steps: no order costs less.
        workflow = (("call", 0, 1, "a"), ("call", 1, 2, "b"), ("return", "z"))
        self.found((system, workflow, [(0, 0)], EVERY, ((3, 400), (1, 2))), (0, 1), ((0, 1), ()), 403)
        # Flips before the step that turns off: its dear key, the costs of index 0, is not at index 0 any more.
        found = self.found(
            ((SWITCH,), calls(0, 2, 2), [(1,)], ("late",), ((1000, 30, 4), (1, 1, 1))), (1, 2, 0), ((0, 1), ()), 34)
        self.assertEqual(reorder(calls(0, 2, 2), found.order)[2], ("call", 0, 0, "a"))

    def test_checkpoints_move_too(self):
        # A count that is returned and an insertion; a fall behind it must not lead to the count again.
        table = (((1, 0), (0, 0)), ((2, 1), (1, 1)), ((3, 2), (2, 2)), ((3, 9), (3, 3)))
        workflow = (("call", 0, 1, "n"), ("call", 0, 0, "r"), ("call", 1, 0, "x"), ("return", "n"))
        system = (table, TRIVIAL)
        self.assertEqual(equivalent_orders(system, workflow), [(0, 1, 2), (0, 2, 1), (2, 0, 1)])
        # A checkpoint on the step between them serves as well as one on the count: only in the second order.
        weights = ((9, 2, 9), (7, 9, 1))
        self.found((system, workflow, [(0, 0)], ("fall",), weights), (0, 2, 1), ((2,), (1,)), 3)
        self.found((system, workflow, [(0, 0)], ("fall",), ((9, 2, 9), (1, 9, 1))), (0, 1, 2), ((1,), (0,)), 3)
        self.found((system, workflow, [(0, 0)], ("fall",), ((0, 2, 9), (1, 9, 1))), (0, 1, 2), ((0, 1), ()), 2)

    def test_the_cheapest_protection_depends_on_the_situations(self):
        # From 2 and up, a lost answer of the step upwards does no harm.
        workflow = (("call", 0, 0, "a"), ("return", "z"))
        self.found(((STAIRS,), workflow, [(2,), (3,)], ("loss",), ((6,), (1,))), (0,), NONE, 0)
        self.found(((STAIRS,), workflow, [(2,), (1,)], ("loss",), ((6,), (1,))), (0,), ((0,), ()), 6)

    def test_orders_are_equivalent_from_all_situations(self):
        # From 1 and 2, down before up is as good, and cheaper with losses, but it is not equivalent.
        workflow = calls(0, 1)
        for situations in ([(1,)], [(2,)], [(1,), (2,)]):
            found = best_order((STAIRS,), workflow, situations, ("loss",), ((1, 1), (1, 1)))
            self.assertEqual(found.order, (0, 1))

    def test_without_calls_and_with_one(self):
        self.assertEqual(best_order(ONE, (END,), [(0,)], EVERY, ((), ())), Reordered((), NONE, 0))
        self.assertEqual(best_order(ONE, INCREASE, [(0,)], EVERY, ((8,), (0,))), Reordered((0,), ((0,), ()), 8))

    def test_situations_as_a_tuple(self):
        case = ((SWITCH,), calls(0, 2, 2), [(0,), (1,)], ("late",), ((5, 1, 2), (7, 8, 9)))
        self.assertEqual(best_order(*case[:2], tuple(case[2]), *case[3:]), best_order(*case))

    def test_random(self):
        other = 0
        for rng, workflow, system in list(straight(202, 50)) + list(settled(203, 70)):
            most = rng.choice([0, 1, 3, 1000])
            weights = tuple(tuple(rng.randint(0, most) for _ in workflow[1:]) for _ in range(2))
            case = (system, workflow, samples.random_situations(rng, system, 2), rng.choice(oracle.FAULT_SETS), weights)
            expected = oracle.best(*case)
            self.found(case, *expected)
            other += expected[0] != tuple(range(len(expected[0])))
            moved = tuple(tuple(costs[step] for step in expected[0]) for costs in weights)
            found = cheapest(system, reorder(workflow, expected[0]), *case[2:4], moved)
            self.assertEqual((found.protection, found.cost), expected[1:])
        self.assertGreater(other, 5)


if __name__ == "__main__":
    unittest.main()

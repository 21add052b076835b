"""Workflows (point 3), their plain execution (point 4), calm steps (point 11)."""

import itertools
import random
import unittest

from retrykeys.errors import InvalidWorkflow
from retrykeys.workflows import calm_steps, call_steps, is_workflow, plain
from tests import oracle, samples, wrong
from tests.samples import BRANCHES, COUNTER, INCREASE, READ_AND_INCREASE, SET_AND_INCREASE, SWITCH, WITHOUT_CALLS

END = ("return", "a")
CALL = ("call", 1, 2, "abcdefgh")


class Recognizing(unittest.TestCase):
    def test_workflows(self):
        for workflow in [SET_AND_INCREASE, READ_AND_INCREASE, INCREASE, WITHOUT_CALLS, BRANCHES, (END,), (END,) * 10,
                         (CALL, END), (CALL,) * 4 + (END,), (("go", 1), END), (("go", 2), CALL, END),
                         (("if", "z", 9, 2), END, END), (END, CALL, END), (("if", "a", 0, 9),) + (END,) * 9]:
            self.assertIs(is_workflow(workflow), True, workflow)

    def test_any_value(self):
        for value in wrong.WORKFLOWS:
            self.assertIs(is_workflow(value), False, value)

    def test_number_of_steps_and_calls(self):
        for steps, calls in itertools.product(range(14), range(7)):
            workflow = (CALL,) * calls + (END,) * steps
            good = steps > 0 and steps + calls <= 10 and calls <= 4
            self.assertIs(is_workflow(workflow), good, workflow)

    def test_every_target(self):
        for at, target in itertools.product(range(4), range(-2, 8)):
            good = at < target < 5
            for step in [("go", target), ("if", "a", 3, target)]:
                self.assertIs(is_workflow((END,) * at + (step,) + (END,) * (4 - at)), good)

    def test_every_number(self):
        for number in range(-2, 13):
            self.assertIs(is_workflow((("call", number, 0, "a"), END)), number in (0, 1))
            self.assertIs(is_workflow((("call", 0, number, "a"), END)), number in (0, 1, 2))
            self.assertIs(is_workflow((("if", "a", number, 1), END)), 0 <= number <= 9)

    def test_every_name(self):
        for letter in map(chr, range(256)):
            good = letter in "abcdefghijklmnopqrstuvwxyz"
            for name in [letter, "a" + letter, letter + "abcdefg"]:
                self.assertIs(is_workflow((("return", name),)), good, name)
                self.assertIs(is_workflow((("call", 0, 0, name), END)), good, name)
                self.assertIs(is_workflow((("if", name, 0, 1), END)), good, name)
        for size in range(12):
            self.assertIs(is_workflow((("return", "x" * size),)), 1 <= size <= 8)

    def test_random(self):
        rng = random.Random(3)
        for _ in range(300):
            system = samples.random_system(rng)
            workflow = samples.random_workflow(rng, system, 4, 10)
            self.assertTrue(is_workflow(workflow))
            self.assertFalse(is_workflow(list(workflow)))
            self.assertFalse(is_workflow(workflow + (("go", len(workflow)),)))


class Steps(unittest.TestCase):
    def test_by_hand(self):
        self.assertEqual(call_steps(SET_AND_INCREASE), [0, 1])
        self.assertEqual(call_steps(BRANCHES), [0, 2, 4])
        self.assertEqual(call_steps(WITHOUT_CALLS), [])
        self.assertEqual(call_steps((END, CALL, CALL, END, CALL, CALL, END)), [1, 2, 4, 5])

    def test_wrong(self):
        for bad in wrong.WORKFLOWS:
            with self.assertRaises(InvalidWorkflow):
                call_steps(bad)


class Plain(unittest.TestCase):
    def test_by_hand(self):
        self.assertEqual(plain((COUNTER,), SET_AND_INCREASE, (2,)), ((1,), 1))
        self.assertEqual(plain((COUNTER,), READ_AND_INCREASE, (2,)), ((0,), 2))
        self.assertEqual(plain((COUNTER,), INCREASE, (1,)), ((2,), 2))
        self.assertEqual(plain((COUNTER,), BRANCHES, (0,)), ((1,), 1))
        self.assertEqual(plain((COUNTER,), BRANCHES, (2,)), ((0,), 0))
        self.assertEqual(plain((COUNTER,), WITHOUT_CALLS, (2,)), ((2,), 0))

    def test_two_services(self):
        workflow = (("call", 1, 2, "a"), ("call", 0, 1, "b"), ("call", 1, 2, "a"), ("call", 1, 0, "c"), ("return", "a"))
        self.assertEqual(plain((COUNTER, SWITCH), workflow, (1, 0)), ((2, 0), 0))
        self.assertEqual(plain((COUNTER, SWITCH), workflow, (2, 1)), ((0, 0), 1))

    def test_values_at_first(self):
        workflow = (("if", "never", 0, 2), ("return", "a"), ("call", 0, 2, "a"), ("return", "a"))
        self.assertEqual(plain((COUNTER,), workflow, (2,)), ((2,), 2))
        self.assertEqual(plain((COUNTER,), (("return", "x"),), (1,)), ((1,), 0))

    def test_a_branch_that_is_not_taken(self):
        workflow = (("call", 0, 2, "a"), ("if", "a", 1, 3), ("return", "a"), ("call", 0, 0, "b"), ("return", "b"))
        self.assertEqual(plain((COUNTER,), workflow, (2,)), ((2,), 2))
        self.assertEqual(plain((COUNTER,), workflow, (1,)), ((0,), 0))

    def test_random(self):
        rng = random.Random(4)
        for _ in range(600):
            system = samples.random_system(rng)
            workflow = samples.random_workflow(rng, system, 4, 10)
            for situation in samples.random_situations(rng, system, 4):
                self.assertEqual(plain(system, workflow, situation), oracle.plain(system, workflow, situation))


class Calm(unittest.TestCase):
    def test_by_hand(self):
        # Setting does not commute with increasing, but nothing comes after increasing.
        self.assertEqual(calm_steps((COUNTER,), SET_AND_INCREASE), [])
        read_twice = (("call", 0, 2, "a"), ("call", 0, 2, "b"), ("return", "b"))
        self.assertEqual(calm_steps((COUNTER,), read_twice), [0, 1])
        self.assertEqual(calm_steps((COUNTER,), (("call", 0, 1, "a"), ("call", 0, 2, "b"), ("return", "b"))), [1])
        self.assertEqual(calm_steps((COUNTER,), READ_AND_INCREASE), [])
        self.assertEqual(calm_steps((COUNTER,), WITHOUT_CALLS), [])

    def test_other_service_does_not_matter(self):
        workflow = (("call", 0, 2, "a"), ("call", 1, 2, "b"), ("call", 1, 0, "c"), ("return", "a"))
        self.assertEqual(calm_steps((COUNTER, SWITCH), workflow), [0, 2])

    def test_lower_steps_do_not_matter(self):
        workflow = (("call", 0, 1, "a"), ("call", 0, 0, "b"), ("call", 0, 0, "b"), ("return", "a"))
        self.assertEqual(calm_steps((COUNTER,), workflow), [1, 2])

    def test_steps_behind_a_return_matter(self):
        workflow = (("call", 0, 2, "a"), ("return", "a"), ("call", 0, 1, "b"), ("return", "a"))
        self.assertEqual(calm_steps((COUNTER,), workflow), [])

    def test_random(self):
        rng = random.Random(5)
        lengths = set()
        for _ in range(1500):
            system = samples.random_system(rng)
            workflow = samples.random_workflow(rng, system, 4, 7)
            found = calm_steps(system, workflow)
            self.assertEqual(found, oracle.calm(system, workflow))
            lengths.add((len(found), len(call_steps(workflow))))
        self.assertEqual(len(lengths), 15)


if __name__ == "__main__":
    unittest.main()

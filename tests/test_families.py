"""Families of protections (point 12), their certificates (point 13), calm steps (point 11)."""

import itertools
import random
import unittest

from retrykeys.deciding import Sufficient, decide
from retrykeys.errors import TooLarge
from retrykeys.families import (
    Family, breaches, family, minimal_protections, protections, robust_protections, sufficient_protections,
)
from retrykeys.workflows import calm_steps, call_steps
from tests import oracle, samples
from tests.samples import BRANCHES, COUNTER, INCREASE, SET_AND_INCREASE, SWITCH, WITHOUT_CALLS

DO, LOSE, CUT, FALL = ("do",), ("lose",), ("cut",), ("fall",)
ONE = (COUNTER,)
EVERY = ("fall", "late", "loss")


class ByHand(unittest.TestCase):
    def test_protections(self):
        self.assertEqual(protections(WITHOUT_CALLS), [((), ())])
        self.assertEqual(protections(INCREASE), [((), ()), ((), (0,)), ((0,), ()), ((0,), (0,))])
        self.assertEqual(protections(SET_AND_INCREASE), [
            ((), ()),
            ((), (0,)), ((), (1,)), ((0,), ()), ((1,), ()),
            ((), (0, 1)), ((0,), (0,)), ((0,), (1,)), ((0, 1), ()), ((1,), (0,)), ((1,), (1,)),
            ((0,), (0, 1)), ((0, 1), (0,)), ((0, 1), (1,)), ((1,), (0, 1)),
            ((0, 1), (0, 1)),
        ])
        found = protections(BRANCHES)
        self.assertEqual(len(found), 64)
        self.assertEqual(found[:3], [((), ()), ((), (0,)), ((), (2,))])
        self.assertEqual(found[-1], ((0, 2, 4), (0, 2, 4)))

    def test_set_and_increase_with_falls(self):
        case = (ONE, SET_AND_INCREASE, [(2,)], ("fall",))
        sufficient = [
            ((), ()), ((), (1,)), ((0, 1), ()), ((1,), (0,)), ((0, 1), (0,)), ((0, 1), (1,)), ((1,), (0, 1)),
            ((0, 1), (0, 1)),
        ]
        self.assertEqual(sufficient_protections(*case), sufficient)
        self.assertEqual(minimal_protections(*case), [((), ())])
        self.assertEqual(robust_protections(*case), [
            ((0, 1), ()), ((1,), (0,)), ((0, 1), (0,)), ((0, 1), (1,)), ((1,), (0, 1)), ((0, 1), (0, 1))])
        self.assertEqual(breaches(*case), [
            (((), ()), ((), (0,))), (((), ()), ((0,), ())), (((), ()), ((1,), ())),
            (((), (1,)), ((), (0, 1))), (((), (1,)), ((0,), (1,))), (((), (1,)), ((1,), (1,))),
        ])

    def test_increase(self):
        case = (ONE, INCREASE, [(0,), (1,)], ("loss",))
        self.assertEqual(sufficient_protections(*case), [((0,), ()), ((0,), (0,))])
        self.assertEqual(minimal_protections(*case), [((0,), ())])
        self.assertEqual(robust_protections(*case), [((0,), ()), ((0,), (0,))])
        self.assertEqual(breaches(*case), [])

    def test_without_calls(self):
        case = (ONE, WITHOUT_CALLS, [(0,)], EVERY)
        for function in (sufficient_protections, minimal_protections, robust_protections):
            self.assertEqual(function(*case), [((), ())])
        self.assertEqual(breaches(*case), [])
        self.assertEqual(family(*case), Family([((), ())], []))

    def test_without_faults(self):
        case = (ONE, BRANCHES, [(0,)], ())
        self.assertEqual(sufficient_protections(*case), protections(BRANCHES))
        self.assertEqual(minimal_protections(*case), [((), ())])
        self.assertEqual(robust_protections(*case), protections(BRANCHES))
        self.assertTrue(Family(protections(BRANCHES), []).is_correct(*case))

    def test_four_calls_are_too_many(self):
        four = (("call", 0, 2, "a"),) * 4 + (("return", "a"),)
        with self.assertRaises(TooLarge):
            protections(four)
        for function in (sufficient_protections, minimal_protections, robust_protections, breaches, family):
            with self.assertRaises(TooLarge):
                function(ONE, four, [(0,)], ())
        with self.assertRaises(TooLarge):
            Family([], []).is_correct(ONE, four, [(0,)], ())
        self.assertIsInstance(decide(ONE, four, ((), ()), [(0,)], EVERY), Sufficient)

    def test_a_certificate(self):
        case = (ONE, INCREASE, [(0,), (1,)], ("late", "loss"))
        good = [((0,), ()), ((0,), (0,))]
        run = ((0,), [LOSE, DO, DO])
        late = ((1,), [DO, DO, ("late", 0)])
        self.assertTrue(Family(good, [run]).is_correct(*case))
        self.assertTrue(Family(good, [late]).is_correct(*case))
        self.assertTrue(Family(good, [((0,), []), late, run, run]).is_correct(*case))
        # The run goes on behind its bad state.
        longer = ((0,), [LOSE, DO, DO, ("late", 0), ("late", 0)])
        self.assertTrue(Family(good, [longer]).is_correct(*case))
        impossible = ((0,), [LOSE, DO, DO, DO])
        self.assertFalse(Family(good, [impossible]).is_correct(*case))
        self.assertTrue(Family(good, [impossible, ((1,), [("late", 0)]), run]).is_correct(*case))
        self.assertFalse(Family(good, []).is_correct(*case))
        self.assertFalse(Family(good, [((0,), [LOSE, DO])]).is_correct(*case))
        self.assertFalse(Family(good, [((0,), [DO, DO])]).is_correct(*case))
        self.assertFalse(Family(good[:1], [run]).is_correct(*case))
        self.assertFalse(Family(good[::-1], [run]).is_correct(*case))
        self.assertFalse(Family(good + good[:1], [run]).is_correct(*case))
        self.assertFalse(Family(good[:1] * 2, [run]).is_correct(*case))
        self.assertFalse(Family([((), ())] + good, [run]).is_correct(*case))
        self.assertFalse(Family([], [run]).is_correct(*case))
        # A run from another situation does harm, even if it is not needed.
        self.assertFalse(Family(good, [run, ((2,), [LOSE, DO, DO])]).is_correct(*case))
        self.assertFalse(Family(good, [run, ((2,), [])]).is_correct(*case))
        # Falls are not among the faults.
        self.assertFalse(Family(good, [((0,), [CUT, DO, DO])]).is_correct(*case))
        self.assertTrue(Family(good, [((0,), [CUT, DO, DO])]).is_correct(*case[:3], ("fall",)))

    def test_each_insufficient_protection_needs_a_run(self):
        case = (ONE, SET_AND_INCREASE, [(2,)], ("fall",))
        found = family(*case)
        self.assertTrue(found.is_correct(*case))
        # With a checkpoint after the first step, the counter is increased twice. With a key on one of the
        # steps and no checkpoint, it is set twice and increased once, or set once and increased twice.
        saved = ((2,), [DO, CUT, DO, DO])
        keyed = ((2,), [DO, CUT, DO, DO, DO])
        self.assertTrue(Family(found.protections, [saved, keyed]).is_correct(*case))
        self.assertTrue(Family(found.protections, [keyed, saved]).is_correct(*case))
        self.assertFalse(Family(found.protections, [saved]).is_correct(*case))
        self.assertFalse(Family(found.protections, [keyed]).is_correct(*case))


class Against(unittest.TestCase):
    """All lists against the oracle."""

    def check(self, case):
        system, workflow, situations, faults = case
        good, minimal, robust, broken = oracle.families(*case)
        self.assertEqual(protections(workflow), oracle.protections(workflow))
        self.assertEqual(sufficient_protections(*case), good, case)
        self.assertEqual(minimal_protections(*case), minimal, case)
        self.assertEqual(robust_protections(*case), robust, case)
        self.assertEqual(breaches(*case), broken, case)
        found = family(*case)
        self.assertEqual(found.protections, good)
        self.assertTrue(found.is_correct(*case))
        self.assertTrue(self.is_correct(case, good, found), case)
        return good, broken, found

    def is_correct(self, case, good, found):
        """Whether a Family is as in point 13, if these are the sufficient protections."""
        system, workflow, situations, faults = case
        if found.protections != good or any(situation not in situations for situation, _ in found.runs):
            return False
        return all(
            any(oracle.is_bad(system, workflow, protection, situation, events, faults)
                for situation, events in found.runs)
            for protection in oracle.protections(workflow) if protection not in good
        )

    def test_up_to_two_calls(self):
        for seed in range(150):
            system, workflow, _, situations, faults = samples.random_case(seed, 2, 2, 6)
            self.check((system, workflow, situations, faults))

    def test_every_workflow_of_calls_of_the_counter(self):
        broken = 0
        for first, second in itertools.product(range(3), repeat=2):
            for faults in [("fall",), ("late",), ("fall", "loss")]:
                workflow = (("call", 0, first, "a"), ("call", 0, second, "b"), ("return", "b"))
                broken += len(self.check((ONE, workflow, [(2,), (0,)], faults))[1]) > 0
        for first, second, third in itertools.product(range(2), repeat=3):
            workflow = (("call", 0, first, "a"), ("call", 0, second, "b"), ("call", 0, third, "a"), ("return", "b"))
            broken += len(self.check((ONE, workflow, [(2,)], ("fall",)))[1]) > 0
        self.assertGreater(broken, 5)

    def test_three_calls(self):
        sizes = set()
        for seed in range(2000, 2060):
            system, workflow, _, situations, faults = samples.random_case(seed, 3, 1, 6)
            if len(call_steps(workflow)) == 3:
                sizes.add(len(self.check((system, workflow, situations, faults))[0]))
        self.assertGreater(len(sizes), 3)

    def test_changed(self):
        rng = random.Random(13)
        verdicts = []
        for seed in range(8000, 8250):
            system, workflow, _, situations, faults = samples.random_case(seed, 2, 2, 5)
            case = (system, workflow, situations, faults)
            found = family(*case)
            good = list(found.protections)
            for _ in range(4 if found.runs else 0):
                changed = Family(found.protections, found.runs)
                self.change(rng, case, changed)
                expected = self.is_correct(case, good, changed)
                self.assertIs(changed.is_correct(*case), expected, (case, changed.protections, changed.runs))
                verdicts.append(expected)
        self.assertGreater(verdicts.count(True), 30)
        self.assertGreater(verdicts.count(False), 30)

    def change(self, rng, case, changed):
        system, workflow, situations, faults = case
        kind = rng.randrange(8)
        run = rng.choice(changed.runs)
        if kind == 0:
            changed.protections.remove(rng.choice(changed.protections))
        elif kind == 1:
            changed.protections.insert(rng.randrange(3), rng.choice(protections(workflow)))
        elif kind == 2:
            changed.runs.remove(run)
        elif kind == 3:
            del run[1][rng.randrange(len(run[1]))]
        elif kind == 4:
            run[1].insert(rng.randrange(len(run[1])), rng.choice(oracle.EVENTS[:6]))
        elif kind == 5:
            changed.runs.append((samples.random_situations(rng, system, 1)[0], [DO]))
        elif kind == 6:
            changed.runs[0] = (samples.random_situations(rng, system, 1)[0], changed.runs[0][1])
        else:
            changed.runs.reverse()
            run[1].append(DO if run[1][-1] != DO else ("late", 0))


class Calm(unittest.TestCase):
    def test_keys_on_all_steps_that_are_not_calm_suffice(self):
        calm = 0
        for seed in range(9000, 9120):
            system, workflow, _, situations, _ = samples.random_case(seed, 3, 3, 7)
            quiet = calm_steps(system, workflow)
            good = sufficient_protections(system, workflow, situations, EVERY)
            robust = robust_protections(system, workflow, situations, EVERY)
            for protection in protections(workflow):
                if all(step in quiet or step in protection[0] for step in call_steps(workflow)):
                    self.assertIn(protection, good)
                    self.assertIn(protection, robust)
            calm += len(quiet) > 0
        self.assertGreater(calm, 20)

    def test_by_hand(self):
        # Turning on a switch and reading a counter do not touch each other.
        workflow = (("call", 0, 1, "a"), ("call", 1, 2, "b"), ("return", "b"))
        system = (SWITCH, COUNTER)
        self.assertEqual(calm_steps(system, workflow), [0, 1])
        self.assertEqual(sufficient_protections(system, workflow, [(0, 1), (1, 2)], EVERY), protections(workflow))
        # Reading the counter before it is set is not calm; a key or a checkpoint on it is enough.
        workflow = (("call", 1, 2, "b"), ("call", 1, 0, "a"), ("return", "b"))
        self.assertEqual(calm_steps(system, workflow), [1])
        found = sufficient_protections(system, workflow, [(0, 1)], EVERY)
        self.assertEqual(minimal_protections(system, workflow, [(0, 1)], EVERY), found[:2])
        self.assertEqual(found[:2], [((), (0,)), ((0,), ())])


if __name__ == "__main__":
    unittest.main()

"""Costs, and the cheapest protection (point 14)."""

import random
import unittest

from retrykeys.costs import Cheapest, cheapest, protection_cost
from retrykeys.errors import TooLarge
from retrykeys.families import protections, sufficient_protections
from tests import oracle, samples, wrong
from tests.samples import BRANCHES, COUNTER, INCREASE, SET_AND_INCREASE, WITHOUT_CALLS

DO, LOSE, CUT, FALL = ("do",), ("lose",), ("cut",), ("fall",)
ONE = (COUNTER,)
NONE = ((), ())
EVERY = ("fall", "late", "loss")
FREE = ((0, 0), (0, 0))


class ProtectionCost(unittest.TestCase):
    def test_by_hand(self):
        weights = ((3, 50), (700, 1000))
        for protection, cost in [
            (NONE, 0), (((0,), ()), 3), (((1,), ()), 50), (((), (0,)), 700), (((), (1,)), 1000),
            (((0, 1), ()), 53), (((1,), (0,)), 750), (((0, 1), (0, 1)), 1753),
        ]:
            self.assertEqual(protection_cost(SET_AND_INCREASE, protection, weights), cost)

    def test_costs_belong_to_call_steps_and_not_to_indices(self):
        weights = ((1, 10, 100), (2, 20, 200))
        self.assertEqual(protection_cost(BRANCHES, ((0, 2, 4), ()), weights), 111)
        self.assertEqual(protection_cost(BRANCHES, ((2,), (4,)), weights), 210)
        self.assertEqual(protection_cost(BRANCHES, ((4,), (0, 2)), weights), 122)

    def test_without_calls_and_with_four(self):
        self.assertEqual(protection_cost(WITHOUT_CALLS, NONE, ((), ())), 0)
        four = (("call", 1, 2, "a"),) * 4 + (("return", "a"),)
        self.assertEqual(protection_cost(four, ((0, 3), (1,)), ((1, 2, 3, 4), (5, 6, 7, 8))), 11)
        self.assertEqual(protection_cost(four, ((0, 1, 2, 3),) * 2, ((1000,) * 4,) * 2), 8000)

    def test_against_the_oracle(self):
        rng = random.Random(141)
        for seed in range(300):
            _, workflow, protection, _, _ = samples.random_case(seed, 4, 1)
            weights = random_weights(rng, workflow, 1000)
            self.assertEqual(
                protection_cost(workflow, protection, weights), oracle.price(workflow, protection, weights))


def random_weights(rng, workflow, most):
    many = len(oracle.calls(workflow))
    return tuple(tuple(rng.randint(0, most) for _ in range(many)) for _ in range(2))


class ByHand(unittest.TestCase):
    def found(self, case, protection, cost, **more):
        found = cheapest(*case, **more)
        self.assertEqual((found.protection, found.cost), (protection, cost))
        self.assertTrue(found.is_correct(*case, **more))
        return found

    def test_loss(self):
        # Only a key on the second step helps against a lost answer.
        case = (ONE, SET_AND_INCREASE, [(2,)], ("loss",))
        found = self.found((*case, ((3, 5), (1, 1))), ((1,), ()), 5)
        self.assertEqual({len(events) for _, events in found.runs}, {4})
        self.found((*case, ((0, 1000), (0, 0))), ((1,), ()), 1000)
        self.found((*case, ((0, 0), (0, 0))), ((1,), ()), 0)

    def test_free_protections_are_ordered_by_size(self):
        # The sufficient ones for falls: nothing, a checkpoint on 1, both keys, a key on 1 and a checkpoint on 0, ..
        case = (ONE, SET_AND_INCREASE, [(2,)], ("fall",))
        found = self.found((*case, FREE), NONE, 0)
        self.assertEqual(found.runs, [])
        self.found((*case, FREE), ((), (1,)), 0, containing=((), (1,)))
        self.found((*case, FREE), ((1,), (0,)), 0, containing=((), (0,)))
        self.found((*case, FREE), ((0, 1), ()), 0, containing=((0,), ()))
        # Both keys stand before the key on 1 with a checkpoint on 0.
        self.found((*case, FREE), ((0, 1), ()), 0, containing=((1,), ()))
        self.found((*case, FREE), ((0, 1), (0,)), 0, containing=((0,), (0,)))
        self.found((*case, FREE), ((0, 1), (0, 1)), 0, containing=((0, 1), (0, 1)))

    def test_equal_costs(self):
        case = (ONE, SET_AND_INCREASE, [(2,)], ("fall",))
        self.found((*case, ((2, 7), (2, 9))), ((0, 1), ()), 9, containing=((1,), ()))
        self.found((*case, ((3, 7), (2, 9))), ((1,), (0,)), 9, containing=((1,), ()))
        self.found((*case, ((1, 7), (2, 9))), ((0, 1), ()), 8, containing=((1,), ()))
        # Costs come before the number of keys and checkpoints.
        self.found((*case, ((0, 0), (5, 0))), ((0, 1), (1,)), 0, containing=((0,), (1,)))
        self.found((*case, ((1, 0), (0, 0))), ((1,), (0,)), 0, containing=((1,), ()))
        self.found((*case, ((4, 0), (0, 0))), ((1,), (0, 1)), 0, containing=((1,), (1,)))

    def test_a_free_part_that_is_not_needed_is_left_out(self):
        case = (ONE, INCREASE, [(0,)], EVERY)
        found = self.found((*case, ((0,), (0,))), ((0,), ()), 0)
        self.assertEqual(found.runs[0][0], (0,))
        self.found((*case, ((1000,), (0,))), ((0,), ()), 1000)
        self.found((*case, ((1000,), (1,))), ((0,), (0,)), 1001, containing=((), (0,)))

    def test_what_must_be_contained_counts(self):
        case = (ONE, SET_AND_INCREASE, [(2,)], (), ((1, 2), (3, 4)))
        for protection in protections(SET_AND_INCREASE):
            cost = protection_cost(SET_AND_INCREASE, protection, case[4])
            found = self.found(case, protection, cost, containing=protection)
            self.assertEqual(found.runs, [])

    def test_without_calls(self):
        case = (ONE, WITHOUT_CALLS, ((0,), (2,)), EVERY, ((), ()))
        self.assertEqual(cheapest(*case), Cheapest(NONE, 0, []))
        self.assertTrue(Cheapest(NONE, 0, []).is_correct(*case))

    def test_four_calls_are_too_many(self):
        four = (("call", 0, 2, "a"),) * 4 + (("return", "a"),)
        case = (ONE, four, [(0,)], (), ((0,) * 4,) * 2)
        with self.assertRaises(TooLarge):
            cheapest(*case)
        with self.assertRaises(TooLarge):
            Cheapest(NONE, 0, []).is_correct(*case)

    def test_containing_is_passed_by_name(self):
        case = (ONE, INCREASE, [(0,)], (), ((1,), (1,)))
        for function in (cheapest, Cheapest(NONE, 0, []).is_correct):
            function(*case, containing=NONE)
            with self.assertRaises(TypeError):
                function(*case, NONE)
        self.assertTrue(Cheapest(NONE, 0, []).is_correct(*case))
        self.assertFalse(Cheapest(NONE, 0, []).is_correct(*case, containing=((), (0,))))

    def test_a_certificate(self):
        # Nothing, a checkpoint, and a key cost 0, 1 and 2; only with the key is no run bad.
        case = (ONE, INCREASE, [(0,), (1,)], ("late", "loss"), ((2,), (1,)))
        key = ((0,), ())
        run = ((0,), [LOSE, DO, DO])
        late = ((1,), [DO, DO, ("late", 0)])
        for runs in ([run], [late], [late, run, run], [((0,), []), run], [((0,), [DO, DO, DO]), late]):
            self.assertTrue(Cheapest(key, 2, runs).is_correct(*case), runs)
        # The run goes on behind its bad state.
        self.assertTrue(Cheapest(key, 2, [((0,), [LOSE, DO, DO, ("late", 0)])]).is_correct(*case))
        for runs in (
            [], [((0,), [LOSE, DO])], [((0,), [DO, DO])], [((0,), [LOSE, DO, DO, DO])], [((0,), [CUT, DO, DO])],
            [run, ((2,), [])], [((2,), [LOSE, DO, DO])], [((0,), [LOSE, DO, DO, None])],
        ):
            self.assertFalse(Cheapest(key, 2, runs).is_correct(*case), runs)
        self.assertFalse(Cheapest(key, 1, [run]).is_correct(*case))
        self.assertFalse(Cheapest(key, 3, [run]).is_correct(*case))
        self.assertFalse(Cheapest(((0,), (0,)), 3, [run]).is_correct(*case))
        self.assertFalse(Cheapest(((), (0,)), 1, [run]).is_correct(*case))
        self.assertFalse(Cheapest(NONE, 0, []).is_correct(*case))

    def test_runs_are_needed_for_what_costs_less(self):
        case = (ONE, SET_AND_INCREASE, [(2,)], ("fall",))
        saved = ((2,), [DO, CUT, DO, DO])
        keyed = ((2,), [DO, CUT, DO, DO, DO])
        # With both keys for 10: of those with the key on 0, the ones without the key on 1 cost less.
        weights = ((0, 10), (1, 1))
        key = ((0,), ())
        both = ((0, 1), ())
        self.assertEqual(cheapest(*case, weights, containing=key).protection, both)
        self.assertTrue(Cheapest(both, 10, [saved, keyed]).is_correct(*case, weights, containing=key))
        self.assertFalse(Cheapest(both, 10, [saved]).is_correct(*case, weights, containing=key))
        self.assertFalse(Cheapest(both, 10, [keyed]).is_correct(*case, weights, containing=key))
        # Those of equal cost need no run, neither the ones before the cheapest protection nor those behind it.
        weights = ((0, 0), (0, 0))
        self.assertTrue(Cheapest(both, 0, []).is_correct(*case, weights, containing=key))
        self.assertFalse(Cheapest(key, 0, []).is_correct(*case, weights, containing=key))
        self.assertFalse(Cheapest(((0, 1), (0,)), 0, []).is_correct(*case, weights, containing=key))
        # Only those that contain the given protection need one: with the checkpoint on 0, these are bad.
        weights = ((0, 1), (0, 0))
        self.assertEqual(cheapest(*case, weights, containing=((), (0,))).protection, ((1,), (0,)))
        self.assertTrue(Cheapest(((1,), (0,)), 1, [saved]).is_correct(*case, weights, containing=((), (0,))))
        self.assertFalse(Cheapest(((1,), (0,)), 1, [keyed]).is_correct(*case, weights, containing=((), (0,))))

    def test_events_of_any_form(self):
        case = (ONE, (("call", 0, 2, "z"), ("call", 0, 1, "a"), ("return", "a")), [(0,)], ("late",), ((0, 1), (0, 0)))
        found = cheapest(*case)
        self.assertEqual((found.protection, found.cost), (((1,), ()), 1))
        good = ((0,), [DO, DO, DO, ("late", 1)])
        self.assertTrue(Cheapest(((1,), ()), 1, [good]).is_correct(*case))
        for event in wrong.EVENTS:
            changed = ((0,), [DO, DO, DO, event])
            self.assertIs(Cheapest(((1,), ()), 1, [changed]).is_correct(*case), False, event)
            self.assertIs(Cheapest(((1,), ()), 1, [changed, good]).is_correct(*case), True, event)
            changed = ((0,), [DO, DO, DO, ("late", 1), event])
            self.assertIs(Cheapest(((1,), ()), 1, [changed]).is_correct(*case), False, event)

    def test_current_fields(self):
        case = (ONE, SET_AND_INCREASE, [(2,)], ("loss",), ((3, 5), (1, 1)))
        found = cheapest(*case)
        found.cost += 1
        self.assertFalse(found.is_correct(*case))
        found.cost -= 1
        self.assertTrue(found.is_correct(*case))
        found.protection = ((0, 1), ())
        self.assertFalse(found.is_correct(*case))
        found.protection = ((1,), ())
        kept = found.runs.pop()
        self.assertFalse(found.is_correct(*case))
        found.runs = [kept]
        self.assertTrue(found.is_correct(*case))
        kept[1].pop()
        self.assertFalse(found.is_correct(*case))


class Against(unittest.TestCase):
    """Random systems, workflows, weights and protections that must be contained, against the oracle."""

    def random_case(self, seed, most_calls, most_situations):
        rng = random.Random(seed)
        system, workflow, protection, situations, faults = samples.random_case(seed, most_calls, most_situations, 6)
        weights = random_weights(rng, workflow, rng.choice([0, 1, 2, 4, 1000]))
        containing = rng.choice([NONE, samples.random_protection(rng, workflow), protection])
        return (system, workflow, situations, faults, weights), containing

    def check(self, case, containing):
        expected, cost, cheaper = oracle.cheapest(*case, containing)
        found = cheapest(*case, containing=containing)
        self.assertEqual((found.protection, found.cost), (expected, cost), (case, containing))
        self.assertTrue(found.is_correct(*case, containing=containing))
        self.assertTrue(self.refutes(case, found.runs, cheaper), (case, containing, found.runs))
        if containing == NONE:
            self.assertEqual(found, cheapest(*case))
            self.assertTrue(found.is_correct(*case))
        return expected, cost, cheaper, found

    def refutes(self, case, runs, cheaper):
        """Whether all runs are from the situations, and each of the protections has a bad one."""
        system, workflow, situations, faults, _ = case
        if any(situation not in situations for situation, _ in runs):
            return False
        return all(
            any(oracle.is_bad(system, workflow, protection, situation, events, faults) for situation, events in runs)
            for protection in cheaper
        )

    def test_up_to_two_calls(self):
        found = [self.check(*self.random_case(seed, 2, 3)) for seed in range(10000, 10400)]
        self.assertGreater(len({cost for _, cost, _, _ in found}), 20)
        self.assertGreater(sum(len(cheaper) > 1 for _, _, cheaper, _ in found), 40)

    def test_three_calls(self):
        found = []
        for seed in range(11000, 11080):
            case, containing = self.random_case(seed, 3, 2)
            if len(oracle.calls(case[1])) == 3:
                found.append(self.check(case, containing))
        self.assertGreater(len({protection for protection, _, _, _ in found}), 8)

    def test_it_is_the_cheapest_of_the_family(self):
        for seed in range(12000, 12100):
            case, _ = self.random_case(seed, 3, 2)
            every = sufficient_protections(*case[:4])
            prices = [protection_cost(case[1], protection, case[4]) for protection in every]
            found = cheapest(*case)
            self.assertEqual(found.cost, min(prices))
            self.assertEqual(found.protection, every[prices.index(min(prices))])

    def test_changed(self):
        rng = random.Random(14)
        verdicts = []
        for seed in range(13000, 13300):
            case, containing = self.random_case(seed, 2, 2)
            protection, cost, cheaper, found = self.check(case, containing)
            for _ in range(6 if found.runs else 1):
                changed = Cheapest(found.protection, found.cost, found.runs)
                self.change(rng, case, changed)
                expected = (changed.protection, changed.cost) == (protection, cost)
                expected = expected and self.refutes(case, changed.runs, cheaper)
                answer = changed.is_correct(*case, containing=containing)
                self.assertIs(answer, expected, (case, containing, changed.protection, changed.cost, changed.runs))
                verdicts.append(expected)
        self.assertGreater(verdicts.count(True), 100)
        self.assertGreater(verdicts.count(False), 100)

    def change(self, rng, case, changed):
        system, workflow, situations, faults, weights = case
        kind = rng.randrange(8)
        run = rng.choice(changed.runs + [(situations[0], [DO])])
        if kind == 0:
            changed.protection = samples.random_protection(rng, workflow)
            changed.cost = oracle.price(workflow, changed.protection, weights)
        elif kind == 1:
            changed.cost += rng.choice([-1, 1])
        elif kind == 2 and changed.runs:
            changed.runs.pop(rng.randrange(len(changed.runs)))
        elif kind == 3:
            del run[1][rng.randrange(len(run[1]))]
        elif kind == 4:
            run[1].insert(rng.randrange(len(run[1]) + 1), rng.choice(oracle.EVENTS[:6]))
        elif kind == 5:
            changed.runs.append((samples.random_situations(rng, system, 1)[0], [DO]))
        elif kind == 6 and changed.runs:
            changed.runs[0] = (samples.random_situations(rng, system, 1)[0], changed.runs[0][1])
        else:
            changed.runs.reverse()
            run[1].append(rng.choice([DO, ("late", 0)]))


if __name__ == "__main__":
    unittest.main()

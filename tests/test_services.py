"""Services and systems (point 2), repeatable and commuting calls (point 11)."""

import itertools
import random
import unittest

from retrykeys.errors import InvalidNumber, InvalidSystem
from retrykeys.services import commuting, execute, is_service, is_system, repeatable
from tests import samples, wrong
from tests.samples import COUNTER, SWITCH, TOLERANT, TRIVIAL


def is_repeatable(service, call):
    for row in service:
        state, answer = row[call]
        if service[state][call] != (state, answer):
            return False
    return True


def do_commute(service, first, second):
    for row in service:
        middle, answer = row[first]
        end, other = service[middle][second]
        back_middle, back_other = row[second]
        back_end, back_answer = service[back_middle][first]
        if (end, answer, other) != (back_end, back_answer, back_other):
            return False
    return True


class Recognizing(unittest.TestCase):
    def test_services(self):
        largest = (((0, 0), (3, 9), (1, 5)),) * 4
        for service in [COUNTER, SWITCH, TOLERANT, TRIVIAL, largest, (((0, 9),),)]:
            self.assertIs(is_service(service), True)
            self.assertIs(is_system((service,)), True)
            self.assertIs(is_system((service, COUNTER)), True)
            self.assertIs(is_system(service), False)

    def test_every_size(self):
        for states, calls in itertools.product(range(7), range(6)):
            service = (((0, 0),) * calls,) * states
            self.assertIs(is_service(service), 1 <= states <= 4 and 1 <= calls <= 3, service)
        for many in range(5):
            self.assertIs(is_system((COUNTER,) * many), 1 <= many <= 2)

    def test_every_answer_and_state(self):
        for state, answer in itertools.product(range(-2, 12), repeat=2):
            good = 0 <= state < 2 and 0 <= answer < 10
            self.assertIs(is_service((((0, 0),), ((state, answer),))), good)
            self.assertIs(is_service((((state, answer),), ((0, 0),))), good)

    def test_any_value(self):
        for value in wrong.SERVICES:
            self.assertIs(is_service(value), False, value)
        for value in wrong.SYSTEMS:
            self.assertIs(is_system(value), False, value)


class Executing(unittest.TestCase):
    def test_table(self):
        rng = random.Random(1)
        for _ in range(200):
            service = samples.random_service(rng)
            for state, row in enumerate(service):
                for call, reply in enumerate(row):
                    self.assertEqual(execute(service, state, call), reply)

    def test_by_hand(self):
        self.assertEqual(execute(COUNTER, 2, 0), (0, 0))
        self.assertEqual(execute(COUNTER, 1, 1), (2, 2))
        self.assertEqual(execute(COUNTER, 2, 2), (2, 2))
        self.assertEqual(execute(SWITCH, 1, 2), (0, 0))

    def test_numbers(self):
        for bad in [-1, 3, 4, None, True, False, "0", (0,), [], {}, 10 ** 9, object(), wrong.Strange()]:
            for arguments in [(COUNTER, bad, 0), (COUNTER, 0, bad), (COUNTER, bad, bad)]:
                with self.assertRaises(InvalidNumber):
                    execute(*arguments)
        with self.assertRaises(InvalidNumber):
            execute(TRIVIAL, 0, 1)
        with self.assertRaises(InvalidNumber):
            execute(TRIVIAL, 1, 0)

    def test_systems(self):
        for bad in wrong.SERVICES:
            for arguments in [(bad, 0, 0), (bad, 9, 0), (bad, 0, None)]:
                with self.assertRaises(InvalidSystem):
                    execute(*arguments)


class Relations(unittest.TestCase):
    def test_by_hand(self):
        self.assertEqual(repeatable(COUNTER), [0, 2])
        self.assertEqual(commuting(COUNTER), [])
        self.assertEqual(repeatable(SWITCH), [0, 1])
        self.assertEqual(commuting(SWITCH), [])
        self.assertEqual(repeatable(TRIVIAL), [0])
        self.assertEqual(commuting(TRIVIAL), [])

    def test_state_alone_is_not_enough(self):
        # Setting answers the old state: the state after repeating is the same, the answer is not.
        telling = (((0, 0),), ((0, 1),))
        self.assertEqual(repeatable(telling), [])
        # Flipping twice with the same answer: the answer is the same, the state is not.
        flipping = (((1, 0),), ((0, 0),))
        self.assertEqual(repeatable(flipping), [])
        # Both orders lead to the same state, but the reading call answers the state.
        reading = (((1, 0), (0, 0)), ((1, 0), (1, 1)))
        self.assertEqual(repeatable(reading), [0, 1])
        self.assertEqual(commuting(reading), [])

    def test_order_of_pairs(self):
        silent = (((0, 1), (0, 2), (0, 3)), ((1, 1), (1, 2), (1, 3)))
        self.assertEqual(commuting(silent), [(0, 1), (0, 2), (1, 2)])
        self.assertEqual(repeatable(silent), [0, 1, 2])
        # Two bits in one state: calls 0 and 2 set one bit each, call 1 clears both.
        bits = tuple(((state | 1, 0), (0, 0), (state | 2, 0)) for state in range(4))
        self.assertEqual(commuting(bits), [(0, 2)])

    def test_random(self):
        rng = random.Random(2)
        seen = set()
        for _ in range(1500):
            service = samples.random_service(rng)
            calls = range(len(service[0]))
            self.assertEqual(repeatable(service), [call for call in calls if is_repeatable(service, call)])
            pairs = [(first, second) for first, second in itertools.combinations(calls, 2)
                     if do_commute(service, first, second)]
            found = commuting(service)
            self.assertEqual(found, sorted(pairs, key=lambda pair: (pair[1], pair[0])))
            seen.add(tuple(found))
        self.assertGreater(len(seen), 5)

    def test_wrong(self):
        for bad in wrong.SERVICES:
            for function in (repeatable, commuting):
                with self.assertRaises(InvalidSystem):
                    function(bad)


if __name__ == "__main__":
    unittest.main()

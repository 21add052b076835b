"""A counter, a lock and a table, with workflows whose runs can be followed by hand, through all modules."""

import unittest

from retrykeys.costs import Cheapest, cheapest, protection_cost
from retrykeys.deciding import Insufficient, decide, tolerance
from retrykeys.encoding import decode_events, encode_events
from retrykeys.executions import Execution
from retrykeys.families import minimal_protections, robust_protections, sufficient_protections
from retrykeys.ordering import Reordered, best_order, equivalent_orders, reorder
from retrykeys.pairs import Interfering, Isolated, decide_pair
from retrykeys.records import Explained, Unexplained, examine, possible_situations, record_of
from retrykeys.runs import replay
from retrykeys.texts import read, written
from retrykeys.workflows import calm_steps, plain
from tests.samples import COUNTER

DO, LOSE, CUT, FALL = ("do",), ("lose",), ("cut",), ("fall",)
NONE = ((), ())
EVERY = ("fall", "late", "loss")

# Free and taken. Call 0 takes it and tells whether it was free, call 1 frees it and tells whether it was taken,
# call 2 looks.
LOCK = (((1, 1), (0, 0), (0, 0)), ((1, 0), (0, 1), (1, 1)))
# So many rows. Call 0 inserts one and tells its index, or 9 if there are three; call 1 counts; call 2 deletes all.
TABLE = (((1, 0), (0, 0), (0, 0)), ((2, 1), (1, 1), (0, 1)), ((3, 2), (2, 2), (0, 2)), ((3, 9), (3, 3), (0, 3)))
SYSTEM = (LOCK, TABLE)

# Take the lock; if it was free, insert a row, free the lock, and return the index of the row.
GUARDED = (
    ("call", 0, 0, "got"),
    ("if", "got", 1, 3),
    ("return", "z"),
    ("call", 1, 0, "row"),
    ("call", 0, 1, "off"),
    ("return", "row"),
)
# Count the rows, insert one, and return the count.
COUNT_AND_INSERT = (("call", 0, 1, "n"), ("call", 0, 0, "row"), ("return", "n"))
TAKE = (("call", 0, 0, "got"), ("return", "got"))


class Guards(unittest.TestCase):
    """Points 5 to 14."""

    def test_plain(self):
        self.assertEqual(plain(SYSTEM, GUARDED, (0, 0)), ((0, 1), 0))
        self.assertEqual(plain(SYSTEM, GUARDED, (0, 2)), ((0, 3), 2))
        self.assertEqual(plain(SYSTEM, GUARDED, (0, 3)), ((0, 3), 9))
        self.assertEqual(plain(SYSTEM, GUARDED, (1, 2)), ((1, 2), 0))
        # Freeing twice answers differently, so no step is calm.
        self.assertEqual(calm_steps(SYSTEM, GUARDED), [])

    def test_taking_and_inserting_need_keys(self):
        for faults in [("loss",), ("fall",), EVERY]:
            self.assertEqual(minimal_protections(SYSTEM, GUARDED, [(0, 0)], faults), [((0, 3), ())])
            self.assertEqual(len(sufficient_protections(SYSTEM, GUARDED, [(0, 0)], faults)), 16)
            self.assertEqual(robust_protections(SYSTEM, GUARDED, [(0, 0)], faults)[0], ((0, 3), ()))
            self.assertEqual(tolerance(SYSTEM, GUARDED, ((0, 4), (0, 3, 4)), [(0, 0)], faults), 0)
        # Without a key on it, the lock is not free any more when the client asks again.
        self.assertEqual(
            decide(SYSTEM, GUARDED, ((3, 4), ()), [(0, 0)], ("loss",)),
            Insufficient((0, 0), [LOSE, DO, DO, DO]))
        # If the lock is taken, nothing can be repeated that does harm.
        self.assertEqual(minimal_protections(SYSTEM, GUARDED, [(1, 0)], EVERY), [NONE])
        # In a full table, only the lock needs a key.
        self.assertEqual(minimal_protections(SYSTEM, GUARDED, [(0, 3)], ("loss",)), [((0,), ())])

    def test_cheapest(self):
        case = (SYSTEM, GUARDED, [(1, 1), (0, 0)], EVERY)
        for weights, cost in [(((4, 2, 1), (0, 0, 0)), 6), (((0, 0, 0), (0, 0, 0)), 0), (((1000,) * 3,) * 2, 2000)]:
            found = cheapest(*case, weights)
            self.assertEqual((found.protection, found.cost), (((0, 3), ()), cost))
            self.assertTrue(found.is_correct(*case, weights))
        weights = ((4, 2, 1), (8, 16, 32))
        found = cheapest(*case, weights, containing=((4,), (3,)))
        self.assertEqual((found.protection, found.cost), (((0, 3, 4), (3,)), 23))
        self.assertEqual(protection_cost(GUARDED, ((0, 3, 4), (3,)), weights), 23)
        self.assertEqual(cheapest(SYSTEM, GUARDED, [(1, 1)], EVERY, weights), Cheapest(NONE, 0, []))

    def test_a_key_or_a_checkpoint(self):
        """A fall behind the insertion must not lead to the count again, except with its old answer."""
        case = ((TABLE,), COUNT_AND_INSERT, [(0,)], ("fall",))
        self.assertEqual(sufficient_protections(*case), [
            ((0, 1), ()), ((1,), (0,)), ((0, 1), (0,)), ((0, 1), (1,)), ((1,), (0, 1)), ((0, 1), (0, 1))])
        for weights, protection, cost in [
            (((2, 3), (2, 9)), ((0, 1), ()), 5),
            (((3, 3), (2, 9)), ((1,), (0,)), 5),
            (((2, 3), (3, 0)), ((0, 1), ()), 5),
            (((0, 3), (0, 0)), ((0, 1), ()), 3),
            (((1, 3), (0, 0)), ((1,), (0,)), 3),
        ]:
            found = cheapest(*case, weights)
            self.assertEqual((found.protection, found.cost), (protection, cost))
            self.assertTrue(found.is_correct(*case, weights))
        self.assertEqual(cheapest(*case, ((0, 0), (0, 0)), containing=((), (0,))).protection, ((1,), (0,)))
        # A run that is bad without protection, and one that is bad with a checkpoint on the count.
        free = [DO, DO, FALL, DO, DO, DO]
        saved = [DO, CUT, DO, DO]
        self.assertEqual(replay((TABLE,), COUNT_AND_INSERT, NONE, (0,), free)[-1][6], 1)
        self.assertTrue(Cheapest(((1,), (0,)), 5, [((0,), free), ((0,), saved)]).is_correct(*case, ((3, 3), (2, 9))))
        self.assertFalse(Cheapest(((1,), (0,)), 5, [((0,), free)]).is_correct(*case, ((3, 3), (2, 9))))


class Clients(unittest.TestCase):
    """Points 15 and 16."""

    def test_two_clients_and_one_lock(self):
        case = ((LOCK,), (TAKE, TAKE))
        self.assertIs(type(decide_pair(*case, (NONE, NONE), [(0,), (1,)], ())), Isolated)
        keyed = ((0,), ())
        self.assertIs(type(decide_pair(*case, (keyed, keyed), [(0,), (1,)], EVERY)), Isolated)
        # Nobody has the lock: one client took it, but its answer was lost.
        for protections, client in [((NONE, keyed), 0), ((keyed, NONE), 1)]:
            found = decide_pair(*case, protections, [(1,), (0,)], ("loss",))
            self.assertEqual((type(found), found.situation, len(found.events)), (Interfering, (0,), 5))
            self.assertIn((client, LOSE), found.events)
        run = [(0, LOSE), (0, DO), (0, DO), (1, DO), (1, DO)]
        self.assertTrue(Interfering((0,), run).is_correct(*case, (NONE, NONE), [(0,)], ("loss",)))
        # A possible run whose outcome is serial, since the other client has the lock.
        self.assertFalse(Interfering((0,), [(1, DO)] + run[:3] + [(1, DO)]).is_correct(
            *case, (NONE, NONE), [(0,)], ("loss",)))

    def test_counting_and_inserting(self):
        # Both count before one of them inserts: both return 0, but one after the other, they return 0 and 1.
        case = ((TABLE,), (COUNT_AND_INSERT, COUNT_AND_INSERT), (((0, 1), ()), ((0, 1), ())), [(3,), (0,)], ())
        found = decide_pair(*case)
        self.assertEqual((found.situation, len(found.events)), ((0,), 6))
        # A full table stays full.
        self.assertIs(type(decide_pair(*case[:3], [(3,)], EVERY)), Isolated)


class Logs(unittest.TestCase):
    """Points 17 and 18."""

    def test_the_lock_was_taken(self):
        record = [("timeout", 0), ("answer", 0, 0), ("return", 0)]
        case = ((LOCK,), TAKE, NONE, [(0,), (1,)], ("loss",))
        found = examine(*case, record)
        self.assertEqual(found.events, [LOSE, DO, DO])
        self.assertTrue(Explained((1,), [LOSE, DO, DO]).is_correct(*case, record))
        self.assertEqual(possible_situations(*case, record), [(1,)])
        # With a key, the lost answer is remembered: the lock was not free before.
        case = ((LOCK,), TAKE, ((0,), ()), [(0,), (1,)], ("loss",))
        self.assertEqual(examine(*case, record), Explained((1,), [LOSE, DO, DO]))
        case = ((LOCK,), TAKE, ((0,), ()), [(0,)], ("loss",))
        lost = ((1,), ((0, 1),), 0, (("got", 0),), (0, (("got", 0),)), (), None)
        self.assertEqual(examine(*case, record), Unexplained(1, [[lost]]))
        self.assertEqual(possible_situations(*case, record), [])

    def test_the_log_of_the_guarded_insertion(self):
        record = [("answer", 0, 1), ("timeout", 3), ("fall",), ("answer", 0, 1), ("answer", 3, 1)]
        case = (SYSTEM, GUARDED, ((0, 3), ()), [(0, 0), (0, 1), (0, 2)], EVERY)
        found = examine(*case, record)
        # The second branch is a silent step each time.
        self.assertEqual((found.situation, len(found.events)), ((0, 1), 7))
        self.assertEqual(possible_situations(*case, record), [(1, 2)])
        self.assertEqual(possible_situations(*case, record + [("timeout", 4)]), [(0, 2)])
        # Without the key on the insertion, two rows may have been inserted, the first one by the lost request.
        case = (SYSTEM, GUARDED, ((0,), ()), [(0, 0)], ("fall", "loss"))
        self.assertEqual(possible_situations(*case, record), [(1, 2)])
        self.assertEqual(examine(*case, record[:2] + record[4:]).situation, (0, 0))


class Orders(unittest.TestCase):
    """Point 20."""

    def test_looking_inserting_and_taking(self):
        # Looking and taking have one order if the look is returned; the insertion may stand anywhere.
        workflow = (("call", 0, 2, "a"), ("call", 1, 0, "b"), ("call", 0, 0, "c"), ("return", "a"))
        self.assertEqual(equivalent_orders(SYSTEM, workflow), [(0, 1, 2), (0, 2, 1), (1, 0, 2)])
        self.assertEqual(len(equivalent_orders(SYSTEM, workflow[:3] + (("return", "b"),))), 6)
        # The insertion needs a key. Behind the take, a fall must not lead to the look again: a checkpoint on the look,
        # or on the insertion, if that stands between them.
        weights = ((9, 5, 9), (6, 1, 9))
        found = best_order(SYSTEM, workflow, [(0, 0)], ("fall",), weights)
        self.assertEqual(found, Reordered((0, 1, 2), ((1,), (1,)), 6))
        # With a cheap checkpoint on the look, all orders cost the same.
        weights = ((9, 5, 9), (3, 7, 9))
        self.assertEqual(best_order(SYSTEM, workflow, [(0, 0)], ("fall",), weights), Reordered((0, 1, 2), ((1,), (0,)), 8))

    def test_deleting_and_inserting(self):
        # Inserted and then deleted, the rows need no keys.
        workflow = (("call", 0, 2, "a"), ("call", 0, 0, "b"), ("return", "b"))
        self.assertEqual(equivalent_orders((TABLE,), workflow), [(0, 1)])
        workflow = (("call", 0, 0, "b"), ("call", 0, 2, "a"), ("return", "z"))
        self.assertEqual(equivalent_orders((TABLE,), workflow), [(0, 1)])
        self.assertEqual(best_order((TABLE,), workflow, [(0,)], ("fall", "loss"), ((1, 1), (1, 1))).cost, 0)
        self.assertEqual(best_order((TABLE,), workflow, [(0,)], ("late",), ((7, 1), (1, 1))), Reordered((0, 1), ((0,), ()), 7))

    def test_the_counter_is_set_first(self):
        # Increased twice from 0: the set must stand first, and both increases need keys.
        workflow = (("call", 0, 0, "a"), ("call", 0, 1, "b"), ("call", 0, 1, "c"), ("return", "z"))
        self.assertEqual(equivalent_orders((COUNTER,), workflow), [(0, 1, 2), (0, 2, 1)])
        self.assertEqual(reorder(workflow, (0, 2, 1)), (workflow[0], workflow[2], workflow[1], workflow[3]))
        found = best_order((COUNTER,), workflow, [(0,), (1,)], ("loss",), ((0, 3, 4), (0, 0, 0)))
        self.assertEqual(found, Reordered((0, 1, 2), ((1, 2), ()), 7))


class Texts(unittest.TestCase):
    """Points 19, 21 and 22."""

    TEXT = """service
  1/1 0/0 0/0
  1/0 0/1 1/1
service
  1/0 0/0 0/0
  2/1 1/1 0/1
  3/2 2/2 0/2
  3/9 3/3 0/3
workflow
  call 0 0 got
  if got 1 3
  return z
  call 1 0 row
  call 0 1 off
  return row
keys 0 3
checkpoints 4
"""

    def test_a_plan(self):
        plan = (SYSTEM, GUARDED, ((0, 3), (4,)))
        self.assertEqual(written(*plan), self.TEXT)
        self.assertEqual(read(self.TEXT), plan)

    def test_an_execution_of_a_plan_and_an_encoded_run(self):
        events = decode_events("020000010001030000000800")
        self.assertEqual(events, [CUT, DO, DO, LOSE, DO, LOSE, FALL, DO, DO, DO, ("late", 4), DO])
        system, workflow, _ = read(self.TEXT)
        execution = Execution(system, workflow, ((0, 3), ()), (0, 1))
        for event in events:
            execution.apply(event)
        self.assertEqual(encode_events(execution.history()), "020000010001030000000800")
        self.assertEqual(execution.state(), (
            (0, 2), ((0, 1), (3, 1)), 5, (("got", 1), ("off", 0), ("row", 1), ("z", 0)),
            (0, (("got", 0), ("off", 0), ("row", 0), ("z", 0))), (4,), None))
        self.assertEqual(execution.record(), [
            ("fall",), ("answer", 0, 1), ("timeout", 3), ("answer", 3, 1), ("timeout", 4), ("fall",), ("answer", 0, 1),
            ("answer", 3, 1), ("answer", 4, 0)])
        self.assertEqual(execution.record(), record_of(system, workflow, ((0, 3), ()), (0, 1), events))
        execution.apply(DO)
        self.assertEqual(execution.outcome(), ((0, 2), 1))
        self.assertEqual(execution.outcome(), plain(system, workflow, (0, 1)))


if __name__ == "__main__":
    unittest.main()

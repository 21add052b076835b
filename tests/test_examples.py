"""The examples of the interface, as they stand in the document."""

import doctest
import unittest

VALUES = """
>>> counter = (((0, 0), (1, 1), (0, 0)), ((0, 0), (2, 2), (1, 1)), ((0, 0), (0, 0), (2, 2)))
>>> workflow = (("call", 0, 0, "a"), ("call", 0, 1, "b"), ("return", "b"))
"""

EXAMPLES = [
    """
>>> from retrykeys.services import is_system
>>> is_system((((0, 10),),))
False
""",
    """
>>> from retrykeys.services import execute
>>> execute((((0, 0), (1, 1)), ((0, 0), (1, 5))), 1, 1)
(1, 5)
""",
    """
>>> from retrykeys.services import repeatable
>>> repeatable(counter)
[0, 2]
""",
    """
>>> from retrykeys.workflows import plain
>>> plain((counter,), workflow, (2,))
((1,), 1)
""",
    """
>>> from retrykeys.runs import initial_state, next_state
>>> next_state((counter,), workflow, ((1,), (0,)), initial_state((counter,), workflow, (2,)), ("do",))
((0,), (), 1, (('a', 0), ('b', 0)), (1, (('a', 0), ('b', 0))), (0,), None)
""",
    """
>>> from retrykeys.deciding import decide
>>> decide((counter,), workflow, ((), (0,)), [(2,)], ("fall",)).events
[('do',), ('cut',), ('do',), ('do',)]
""",
    """
>>> from retrykeys.deciding import tolerance
>>> tolerance((counter,), workflow, ((), (0,)), [(2,)], ("fall",))
0
""",
    """
>>> from retrykeys.families import sufficient_protections
>>> sufficient_protections((counter,), workflow, [(2,)], ("fall",))[:4]
[((), ()), ((), (1,)), ((0, 1), ()), ((1,), (0,))]
""",
    """
>>> from retrykeys.families import robust_protections
>>> robust_protections((counter,), workflow, [(2,)], ("fall",))[:2]
[((0, 1), ()), ((1,), (0,))]
""",
    """
>>> from retrykeys.costs import cheapest
>>> found = cheapest((counter,), workflow, [(2,)], ('loss',), ((3, 5), (1, 1)))
>>> (found.protection, found.cost)
(((1,), ()), 5)
""",
    """
>>> from retrykeys.pairs import decide_pair
>>> read = (('call', 0, 2, 'a'), ('call', 0, 1, 'b'), ('return', 'a'))
>>> decide_pair((counter,), (read, read), (((), ()), ((), ())), [(0,)], ()).situation
(0,)
""",
    """
>>> from retrykeys.records import possible_situations
>>> record = [('timeout', 0), ('answer', 0, 0), ('fall',)]
>>> possible_situations((counter,), workflow, ((), (0,)), [(2,)], ('fall', 'loss'), record)
[(0,), (1,)]
""",
    """
>>> from retrykeys.records import examine
>>> examine((counter,), workflow, ((), ()), [(2,)], ('fall',), [('answer', 0, 0), ('answer', 1, 2)]).index
1
""",
    """
>>> from retrykeys.executions import Execution
>>> execution = Execution((counter,), workflow, ((), ()), (2,))
>>> first = execution.apply(('do',))
>>> second = execution.apply(('lose',))
>>> third = execution.apply(('do',))
>>> fourth = execution.apply(('do',))
>>> (fourth[0], execution.outcome(), execution.record())
((2,), ((2,), 2), [('answer', 0, 0), ('timeout', 1), ('answer', 1, 2), ('return', 2)])
""",
    """
>>> from retrykeys.ordering import equivalent_orders
>>> workflow = (('call', 0, 2, 'a'), ('call', 0, 2, 'b'), ('call', 0, 1, 'c'), ('return', 'a'))
>>> equivalent_orders((counter,), workflow)
[(0, 1, 2), (0, 2, 1), (1, 0, 2)]
""",
    """
>>> from retrykeys.texts import written
>>> written(((((0, 0),),),), (('call', 0, 0, 'a'), ('return', 'a')), ((0,), ()))
'service\\n  0/0\\nworkflow\\n  call 0 0 a\\n  return a\\nkeys 0\\ncheckpoints\\n'
""",
    """
>>> from retrykeys.encoding import encode_events
>>> encode_events([('do',), ('cut',), ('late', 3)])
'000207'
""",
]


class Examples(unittest.TestCase):
    def test_examples(self):
        for example in EXAMPLES:
            found = doctest.DocTestParser().get_doctest(VALUES + example, {}, "example", None, 0)
            report = []
            result = doctest.DocTestRunner().run(found, out=report.append)
            self.assertEqual((result.failed, "".join(report)), (0, ""))
            self.assertGreaterEqual(result.attempted, 4)


if __name__ == "__main__":
    unittest.main()

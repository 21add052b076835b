"""Values that are not what they should be, of many forms."""

from tests.samples import COUNTER, SET_AND_INCREASE, SWITCH, TRIVIAL


class Strange:
    """Equal to everything, as a value from outside may be."""

    def __eq__(self, other):
        return True

    __hash__ = None


ANYTHING = [
    None, True, False, -1, 0, 7, 10 ** 30, "", "a", "call", b"", b"do", (), [], {}, {0: 0}, set(), frozenset(), (None,),
    ((),), (((),),), ((((),),),), [[]], object(), Strange(), (Strange(),), (Strange(), Strange()), len, int, range(2),
]

SERVICES = ANYTHING + [
    list(COUNTER),
    tuple(list(row) for row in COUNTER),
    tuple(tuple(list(pair) for pair in row) for row in COUNTER),
    COUNTER[:2],
    COUNTER + (((0, 0), (1, 1), (0, 0)),) * 2,
    (((0, 0),) * 4,),
    ((),),
    ((), ()),
    (((0, 0),), ()),
    (((0, 0),), ((0, 0), (0, 0))),
    (((0, 0), (0, 0)), ((0, 0),)),
    (((0, 10),),),
    (((0, -1),),),
    (((1, 0),),),
    (((-1, 0),),),
    (((0,),),),
    (((0, 0, 0),),),
    (((False, 0),),),
    (((0, False),),),
    (((0, True),),),
    (((0, None),),),
    (((0, "0"),),),
    ((("0", 0),),),
    (((0, (0,)),),),
    (((Strange(), 0),),),
    (((0, Strange()),),),
    ((Strange(),),),
    (COUNTER[0], COUNTER[1], None),
    (COUNTER,),
]

SYSTEMS = ANYTHING + [
    COUNTER,
    [COUNTER],
    (COUNTER, COUNTER, COUNTER),
    (COUNTER, None),
    (COUNTER, True),
    (COUNTER, [COUNTER]),
    (COUNTER, ()),
    {0: COUNTER},
] + [(service,) for service in SERVICES] + [(COUNTER, service) for service in SERVICES]

END = ("return", "a")
CALL = ("call", 0, 0, "a")
STEPS = ANYTHING + [
    ["return", "a"], ("return",), ("return", "a", "a"), ("return", ""), ("return", "abcdefghi"), ("return", "A"),
    ("return", "a1"), ("return", "a b"), ("return", "a\n"), ("return", "_"), ("return", None), ("return", 0),
    ("return", b"a"), ("return", ("a",)), ("return", Strange()), ("Return", "a"), (b"return", "a"), (None, "a"),
    ("call",), ("call", 0), ("call", 0, 0), ("call", 0, 0, "a", 0), ("call", 2, 0, "a"), ("call", -1, 0, "a"),
    ("call", 0, 3, "a"), ("call", 0, -1, "a"), ("call", False, 0, "a"), ("call", 0, False, "a"), ("call", True, 0, "a"),
    ("call", 0, True, "a"), ("call", None, 0, "a"), ("call", 0, None, "a"), ("call", "0", 0, "a"), ("call", 0, "0", "a"),
    ("call", 0, 0, ""), ("call", 0, 0, "abcdefghi"), ("call", 0, 0, "aB"), ("call", 0, 0, 0), ("call", 0, 0, None),
    ("call", Strange(), 0, "a"), ("call", 0, Strange(), "a"), ("call", 0, 0, Strange()), ["call", 0, 0, "a"],
    (Strange(), 0, 0, "a"), (Strange(), "a"), (Strange(), 1), (True, 1), (0, "a"),
    ("if",), ("if", "a", 0), ("if", "a", 0, 1, 1), ("if", "a", 10, 1), ("if", "a", -1, 1), ("if", "a", False, 1),
    ("if", "a", None, 1), ("if", "a", "0", 1), ("if", "", 0, 1), ("if", "A", 0, 1), ("if", 0, 0, 1), ("if", "a", 0, 0),
    ("if", "a", 0, -1), ("if", "a", 0, 2), ("if", "a", 0, True), ("if", "a", 0, None), ("if", "a", 0, "1"),
    ("if", "a", Strange(), 1), ("if", "a", 0, Strange()), ["if", "a", 0, 1],
    ("go",), ("go", 0), ("go", -1), ("go", 2), ("go", True), ("go", None), ("go", "1"), ("go", 1, 1), ("go", (1,)),
    ("go", "a"), ["go", 1], ("stop",), ("stop", "a"), ("do",), ("late", 0),
    ("stop", 0, 0, "a"), ("stop", "a", 0, 1), ("stop", 1), ("call", "a", 0, 1), ("if", 0, 0, "a"), ("return", 1),
    ("return", 0, 0, "a"), ("go", 0, 0, "a"), ("go", "a", 0, 1), ("call", "a"), ("call", 1), ("if", "a"), ("if", 1),
]

WORKFLOWS = ANYTHING + [
    list(SET_AND_INCREASE),
    tuple(list(step) for step in SET_AND_INCREASE),
    SET_AND_INCREASE[:2],
    SET_AND_INCREASE[0],
    (CALL,),
    (("go", 1),),
    (("if", "a", 0, 1),),
    (END, CALL),
    (END, ("go", 0)),
    (END, ("if", "a", 0, 1)),
    (END,) * 11,
    (CALL,) * 5 + (END,),
    (("go", 2), ("go", 1), END),
    (("go", 1), ("go", 1), END),
    (("go", 1), ("if", "a", 0, 0), END),
    (("go", 3), END, END),
] + [(step, END) for step in STEPS] + [(CALL, CALL, step) for step in STEPS]

# Valid workflows that use what the system (COUNTER,) or the system (SWITCH, TRIVIAL) does not have.
UNFIT = {
    (COUNTER,): [(("call", 1, 0, "a"), END), (END, ("call", 1, 2, "a"), END), (CALL, ("go", 3), ("call", 1, 0, "b"), END)],
    (SWITCH, TRIVIAL): [(("call", 1, 1, "a"), END), (END, ("call", 1, 2, "a"), END)],
}


def situations(system):
    """Values that are not a situation of a system."""
    full = tuple(0 for _ in system)
    found = ANYTHING + [list(full), full + (0,), full[1:], {0: 0}]
    for index, service in enumerate(system):
        for wrong in [len(service), -1, None, "0", True, False, (0,), [0], 10 ** 20, Strange()]:
            found.append(full[:index] + (wrong,) + full[index + 1:])
    return found


def situation_lists(system):
    """Values that are not 1 to 4 different situations of a system."""
    full = tuple(0 for _ in system)
    every = [(state,) + full[1:] for state in range(len(system[0]))]
    found = [None, True, 0, "", (), [], {}, full, list(full), {full: 0}, iter([full]), [full, full], (full, full)]
    found += [object(), Strange(), every + every[:1], [every, every], (None,), [full, None], {full}, every * 2]
    found += [[full, wrong] for wrong in situations(system)] + [(wrong,) for wrong in situations(system)]
    return found


def protections(call_steps, size):
    """Values that are not a protection of a workflow with these call steps and so many steps."""
    others = [step for step in range(-1, size + 2) if step not in call_steps]
    rows = [[], None, 0, "", {}, [0], (None,), ("0",), (True,), (False,), ((0,),), (Strange(),), range(0), ([],), (-1,)]
    rows += [(step,) for step in others] + [(step, step) for step in call_steps] + [tuple(call_steps[:1]) + (None,)]
    if len(call_steps) > 1:
        rows += [tuple(reversed(call_steps)), tuple(call_steps) + (call_steps[0],), list(call_steps)]
    found = [value for value in ANYTHING] + [[(), ()], ((),), ((), (), ()), {0: (), 1: ()}]
    found += [((), row) for row in rows] + [(row, ()) for row in rows] + [[(), row] for row in [(), []]]
    return found


FAULTS = [
    None, True, 0, "", "fall", "loss", [], ["fall"], {}, {"fall": 0}, {"fall"}, ("late", "fall"), ("loss", "fall"),
    ("loss", "late"), ("fall", "fall"), ("fall", "late", "loss", "loss"), ("fall", "loss", "late"), ("do",), ("lose",),
    ("cut",), ("Fall",), ("",), (None,), (True,), (0,), (("fall",),), (["fall"],), ("fall", None), (b"fall",), object(),
    Strange(), (Strange(),), ("fall", Strange()), ("fall", "late", "loss", "other"), (1, 2, 3),
]

EVENTS = [
    None, True, 0, "", "do", b"do", [], ["do"], {}, (), ("do", 0), ("do", None), ("lose", 0), ("cut", 0), ("fall", 0),
    ("late",), ("late", None), ("late", True), ("late", False), ("late", "0"), ("late", (0,)), ("late", [0]),
    ("late", -1), ("late", 10), ("late", 99), ("late", 0, 0), ["late", 0], ("Do",), ("go", 1), ("return", "a"),
    ("call", 0, 0, "a"), (None,), (0,), (True,), (("do",),), object(), Strange(), (Strange(),), (Strange(), 0),
    ("late", Strange()), ("loss",), ("do", "do"), (b"do",), {"do"}, len,
]


COSTS = [
    None, True, 0, "", "ab", [], [0, 0], {}, (), (0,), (0, 0, 0), (0, -1), (0, 1001), (True, 0), (0, False), (0, None),
    ("0", 0), ((0,), 0), (0, 10 ** 30), object(), Strange(), (Strange(), 0), (Strange(), Strange()), range(2), ([], 0),
]

# Values that are not weights of a workflow with two call steps.
WEIGHTS = ANYTHING + [
    [(0, 0), (0, 0)], ((0, 0),), ((0, 0), (0, 0), (0, 0)), {0: (0, 0), 1: (0, 0)}, (0, 0), ((0,), (0,)),
    ((0, 0, 0), (0, 0, 0)), [[0, 0], [0, 0]], ((0, 0), None), (None, (0, 0)), ((), ()), ((0,), (0, 0, 0)),
] + [((0, 0), costs) for costs in COSTS] + [(costs, (1000, 0)) for costs in COSTS]

# Values that are not entries of a record of SET_AND_INCREASE.
ENTRIES = [
    None, True, 0, "", "fall", b"fall", [], ["fall"], {}, (), ("fall", 0), ("fall", None), ("fall", 0, 0), ("cut",),
    ("lose",), ("late", 0), ("do",), ("Fall",), (None,), (0,), (("fall",),), object(), Strange(), (Strange(),),
    (Strange(), 0), (Strange(), 0, 0), (b"fall",), {"fall"}, len,
    ("timeout",), ("timeout", 2), ("timeout", -1), ("timeout", 3), ("timeout", None), ("timeout", False),
    ("timeout", True), ("timeout", "0"), ("timeout", (0,)), ("timeout", [0]), ("timeout", 0, 0), ("timeout", Strange()),
    ["timeout", 0], ("Timeout", 0),
    ("answer",), ("answer", 0), ("answer", 0, 10), ("answer", 0, -1), ("answer", 0, None), ("answer", 0, False),
    ("answer", 0, True), ("answer", 0, "0"), ("answer", 0, Strange()), ("answer", 2, 0), ("answer", 3, 0),
    ("answer", -1, 0), ("answer", None, 0), ("answer", False, 0), ("answer", True, 0), ("answer", "0", 0),
    ("answer", Strange(), 0), ("answer", (0,), 0), ("answer", 0, 0, 0), ["answer", 0, 0], ("answer", [0], 0),
    ("return",), ("return", 10), ("return", -1), ("return", None), ("return", False), ("return", True), ("return", "0"),
    ("return", Strange()), ("return", 0, 0), ["return", 0], ("return", "a"), ("return", (0,)),
    ("stop", 0), ("stop", 0, 0), ("stop",), ("if", 0), ("call", 0, 0), ("go", 0),
]

RECORDS = [
    None, True, 0, "", "fall", b"", {}, {0: ("fall",)}, set(), frozenset(), {("fall",)}, ("fall",), ("timeout", 0),
    ("answer", 0, 0), ("return", 0), object(), Strange(), range(1), iter([]), len, [["fall"]], [[]], [()], ((),),
] + [[entry] for entry in ENTRIES] + [[("fall",), ("answer", 1, 9), entry] for entry in ENTRIES] + [
    (("timeout", 1), entry, ("return", 0)) for entry in ENTRIES
]


# Values that are not orders of a workflow with two call steps.
ORDERS = ANYTHING + [
    [0, 1], (0,), (1,), (0, 0), (1, 1), (0, 2), (2, 1), (0, 1, 2), (0, 1, 1), (-1, 0), (0, -1), (True, 0), (0, True),
    (False, 1), (1, False), (0, None), ("0", "1"), ("0", 1), ((0,), (1,)), (0, (1,)), ((0, 1),), {0, 1}, {0: 0, 1: 1},
    range(2), "01", b"01", (0, Strange()), (Strange(), 1), ([0], [1]), (0, [1]),
]

# Valid workflows that are not straight.
CROOKED = [
    (END, END), (END, CALL, END), (CALL, END, END), (CALL, END, CALL, END), (CALL,) * 4 + (END,), (("go", 1), END),
    (CALL, ("go", 2), END), (("go", 1), CALL, END), (("if", "a", 0, 1), END), (CALL, ("if", "a", 0, 2), CALL, END),
    (("if", "a", 0, 2), CALL, END), (CALL, CALL, CALL, ("go", 4), END), (CALL, CALL, CALL, CALL, END, END),
]

# Values that are not strings, for what is read from one.
NO_TEXTS = [value for value in ANYTHING if not isinstance(value, str)] + [
    [""], ("",), ["service"], {"": ""}, b"00", b"service\n  0/0\n", ("00",), ["00"], (48, 48), [0, 1], 10, 0x00,
]


def replaced(values, index, value):
    """A tuple with another item at an index."""
    return values[:index] + (value,) + values[index + 1:]


def states(good):
    """Values that do not have the form of a state.

    `good` is a state of SET_AND_INCREASE on (COUNTER,) with ((1,), (0,)), in which the client has not returned.
    """
    found = list(ANYTHING) + [list(good), good[:6], good + (None,), good * 2]
    values = good[3]
    bad_values = [
        None, (), [], values[:1], values[::-1], values + (("c", 0),), list(values), dict(values), ("a", "b"), (0, 0),
        (("a", 0), ("b", 10)), (("a", -1), ("b", 0)), (("a", True), ("b", 0)), (("a", None), ("b", 0)),
        (("a", 0), ("c", 0)), (["a", 0], ["b", 0]), (("a", 0, 0), ("b", 0)), (("a",), ("b",)), (("a", 0), ("a", 0)),
        (("a", "0"), ("b", 0)), ((0, 0), (0, 0)), ((Strange(), 0), ("b", 0)), (("a", Strange()), ("b", 0)), "ab",
    ]
    for wrong in situations((COUNTER,)):
        found.append(replaced(good, 0, wrong))
    for wrong in [None, [], 0, "", {}, ((0, 0),), ((2, 0),), ((1, 10),), ((1, -1),), ((1, True),), ((True, 0),), ((1,),),
                  ((1, 0, 0),), ([1, 0],), ((1, 0), (1, 0)), ((1, None),), (1,), ((1, "0"),), ((None, 0),), ((5, 0),),
                  [(1, 0)], (1, 0), ((1, Strange()),), ((Strange(), 0),), (Strange(),)]:
        found.append(replaced(good, 1, wrong))
    for wrong in [None, -1, 3, 10, True, False, "0", (0,), [], Strange()]:
        found.append(replaced(good, 2, wrong))
    for wrong in bad_values:
        found.append(replaced(good, 3, wrong))
        found.append(replaced(good, 4, (0, wrong)))
    for wrong in [None, (), [], 0, (0,), [0, values], (None, values), (-1, values), (3, values), (True, values),
                  ("0", values), (0, values, 0), (values, 0), (Strange(), values), Strange()]:
        found.append(replaced(good, 4, wrong))
    for wrong in [None, [], 0, "", (1,), (2,), (0, 0), (0, 1), (True,), (False,), (None,), ("0",), [0], ((0,),), {},
                  (Strange(),), (-1,)]:
        found.append(replaced(good, 5, wrong))
    for wrong in [0, 9, True, False, "", (), 10, -1, Strange()]:
        found.append(replaced(good, 6, wrong))
    for wrong in [None, -1, 10, True, False, "0", (0,), Strange()]:
        found.append(replaced(replaced(good, 2, None), 6, wrong))
    return found


def joint_states(good):
    """Values that do not have the form of a joint state.

    `good` is one of workflows with the name a and a call step 0 only, on (COUNTER,), where the second has a key on it;
    no client has returned in it.
    """
    found = list(ANYTHING) + [list(good), good[:2], good + (good[2],), good[::-1], (good[0], good[1], None)]
    found += [(good[0], (good[0],) + good[1], (good[0],) + good[2])]
    found += [replaced(good, 0, value) for value in situations((COUNTER,))]
    for at in (1, 2):
        part = good[at]
        parts = list(ANYTHING) + [list(part), part[:5], part + (None,), part[1:], (good[0],) + part]
        parts += [replaced(part, 0, value) for value in [None, [], 0, ((1, 0),), ((0, 10),), ((0, True),), (0,)]]
        parts += [replaced(part, 1, value) for value in [None, -1, 2, True, False, "0", (0,), Strange()]]
        for values in [(), (("a", 10),), (("a", False),), (("b", 0),), (("a", 0), ("b", 0)), [("a", 0)], "a", None]:
            parts += [replaced(part, 2, values), replaced(part, 3, (0, values))]
        parts += [replaced(part, 3, value) for value in [None, (), (0,), (2, part[2]), (True, part[2]), [0, part[2]]]]
        parts += [replaced(part, 4, value) for value in [None, [], 0, (1,), (False,), (0, 0), (None,), Strange()]]
        parts += [replaced(part, 5, value) for value in [0, 5, False, "", 10, Strange()]]
        parts += [replaced(replaced(part, 1, None), 5, value) for value in [None, True, 10, -1, "0", Strange()]]
        found += [replaced(good, at, value) for value in parts]
    # The keys are those of the second client.
    found.append(replaced(good, 1, replaced(good[1], 0, ((0, 0),))))
    found.append(replaced(good, 2, replaced(good[2], 4, (0,))))
    return found


def matches(value, allowed):
    """Whether a value of ANYTHING is after all one of the allowed ones, of exactly the same kind."""
    return any(type(value) is type(other) and value == other for other in allowed)

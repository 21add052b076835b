"""Services and workflows with names, and random ones that are the same in each run of the tests."""

import random

from tests import oracle

# The values 0 to 2: call 0 sets to 0, call 1 increases, call 2 reads.
COUNTER = (((0, 0), (1, 1), (0, 0)), ((0, 0), (2, 2), (1, 1)), ((0, 0), (0, 0), (2, 2)))
# Off and on: call 0 turns off, call 1 turns on, call 2 flips; the answer is the new state.
SWITCH = (((0, 0), (1, 1), (1, 1)), ((0, 0), (1, 1), (0, 0)))
# Call 0 may be executed twice: the third execution leads astray. Call 1 does nothing.
TOLERANT = (((1, 0), (0, 0)), ((2, 0), (1, 0)), ((3, 0), (1, 0)), ((3, 0), (3, 0)))
# One state, one call.
TRIVIAL = (((0, 0),),)

SET_AND_INCREASE = (("call", 0, 0, "a"), ("call", 0, 1, "b"), ("return", "b"))
READ_AND_INCREASE = (("call", 0, 2, "a"), ("call", 0, 1, "b"), ("return", "a"))
INCREASE = (("call", 0, 1, "a"), ("return", "a"))
WITHOUT_CALLS = (("if", "a", 0, 2), ("return", "a"), ("go", 4), ("return", "a"), ("return", "b"))
BRANCHES = (
    ("call", 0, 2, "x"),
    ("if", "x", 0, 4),
    ("call", 0, 0, "y"),
    ("go", 5),
    ("call", 0, 1, "y"),
    ("return", "y"),
)


def random_service(rng):
    """A service whose calls set, read, increase, keep, or do anything."""
    states, calls = rng.choice([1, 2, 2, 3, 3, 3, 4, 4]), rng.randint(1, 3)
    columns = []
    for _ in range(calls):
        kind = rng.randrange(9)
        target = rng.randrange(states)
        if kind == 0:
            column = [(target, rng.choice([0, target])) for _ in range(states)]
        elif kind == 1:
            column = [(state, state) for state in range(states)]
        elif kind == 2:
            column = [((state + 1) % states, (state + 1) % states) for state in range(states)]
        elif kind == 3:
            column = [(min(state + 1, states - 1), rng.choice([0, state])) for state in range(states)]
        elif kind == 4:
            column = [(target, state) for state in range(states)]
        else:
            column = [(rng.randrange(states), rng.randrange(10)) for _ in range(states)]
        columns.append(column)
    return tuple(tuple(column[state] for column in columns) for state in range(states))


def random_system(rng):
    return tuple(random_service(rng) for _ in range(rng.randint(1, 2)))


def random_workflow(rng, system, most_calls, longest=8):
    """A workflow that fits a system, with at most so many call steps."""
    size = rng.choice([1, 2] + 3 * list(range(3, longest + 1)))
    many = min(size - 1, most_calls)
    places = rng.sample(range(size - 1), rng.choice([many, many, rng.randint(0, many)]))
    if rng.random() < 0.7:
        places = list(range(len(places)))
    letters = rng.choice(["a", "ab", "ba", "abc", "abcde"])
    steps = []
    for index in range(size - 1):
        kind = rng.randrange(6)
        if index in places:
            service = rng.randrange(len(system))
            steps.append(("call", service, rng.randrange(len(system[service][0])), rng.choice(letters)))
        elif kind < 4:
            steps.append(("if", rng.choice(letters), rng.randrange(4), rng.randint(index + 1, size - 1)))
        elif kind == 4:
            steps.append(("go", rng.randint(index + 1, min(size - 1, index + 2))))
        else:
            steps.append(("return", rng.choice(letters)))
    steps.append(("return", rng.choice(letters)))
    return tuple(steps)


def random_protection(rng, workflow):
    steps = oracle.calls(workflow)
    chance = rng.choice([0.1, 0.3, 0.6])
    return tuple(tuple(step for step in steps if rng.random() < chance) for _ in range(2))


def random_situations(rng, system, most):
    every = [()]
    for service in system:
        every = [situation + (state,) for situation in every for state in range(len(service))]
    return rng.sample(every, min(len(every), rng.randint(1, most)))


def random_state(rng, system, workflow, protection):
    """A state of the form of point 6, reachable or not."""
    keys = protection[0]
    bare = [step for step in oracle.calls(workflow) if step not in keys]

    def values():
        return tuple((name, rng.randrange(10)) for name in sorted(oracle.names(workflow)))

    returned = rng.random() < 0.2
    return (
        tuple(rng.randrange(len(service)) for service in system),
        tuple((step, rng.randrange(10)) for step in keys if rng.random() < 0.5),
        None if returned else rng.randrange(len(workflow)),
        values(),
        (rng.randrange(len(workflow)), values()),
        tuple(step for step in bare if rng.random() < 0.5),
        rng.randrange(10) if returned else None,
    )


def random_case(seed, most_calls, most_situations, longest=8):
    """A system, a workflow, a protection, situations and a set of faults."""
    rng = random.Random(seed)
    system = random_system(rng)
    workflow = random_workflow(rng, system, most_calls, longest)
    protection = random_protection(rng, workflow)
    situations = random_situations(rng, system, most_situations)
    return system, workflow, protection, situations, rng.choice(oracle.FAULT_SETS + oracle.FAULT_SETS[1:])

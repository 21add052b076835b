"""Workflows, their plain execution, and their calm steps."""

from retrykeys.errors import InvalidWorkflow, TooLarge
from retrykeys.services import check_situation, check_system, commutes, repeats
from retrykeys.shapes import is_answer, is_index, is_tuple


def is_name(value):
    """Tell whether a value is a string of 1 to 8 lower-case letters."""
    if not isinstance(value, str) or not 1 <= len(value) <= 8:
        return False
    return all(["a" <= letter <= "z" for letter in value])


def is_call(step):
    """Tell whether a tuple that begins with a word is a call step."""
    if step[0] != "call" or len(step) != 4:
        return False
    return is_index(step[1], 2) and is_index(step[2], 3) and is_name(step[3])


def is_branch(step, at, size):
    """Tell whether a tuple that begins with a word is an `if` at an index of a workflow."""
    if step[0] != "if" or len(step) != 4:
        return False
    return is_name(step[1]) and is_answer(step[2]) and is_index(step[3], size) and step[3] > at


def is_jump(step, at, size):
    """Tell whether a tuple that begins with a word is a `go` at an index of a workflow."""
    return step[0] == "go" and len(step) == 2 and is_index(step[1], size) and step[1] > at


def is_end(step):
    """Tell whether a tuple that begins with a word is a `return`."""
    return step[0] == "return" and len(step) == 2 and is_name(step[1])


def is_step(value, at, size):
    """Tell whether any value is a step at an index of a workflow with so many steps."""
    if not is_tuple(value, 2, 4) or not isinstance(value[0], str):
        return False
    return is_call(value) or is_branch(value, at, size) or is_jump(value, at, size) or is_end(value)


def calls_of(workflow):
    """Return the ascending list of the call steps of a tuple of steps."""
    return [at for at, step in enumerate(workflow) if step[0] == "call"]


def is_workflow(value):
    """Tell whether any value is a workflow."""
    if not is_tuple(value, 1, 10):
        return False
    if not all([is_step(step, at, len(value)) for at, step in enumerate(value)]):
        return False
    return value[-1][0] == "return" and len(calls_of(value)) <= 4


def fits(system, workflow):
    """Tell whether a system has all services and calls that a workflow uses."""
    used = [workflow[at] for at in calls_of(workflow)]
    return all([step[1] < len(system) and step[2] < len(system[step[1]][0]) for step in used])


def check_alone(workflow):
    """Raise InvalidWorkflow if a value is not a workflow, whatever the system."""
    if not is_workflow(workflow):
        raise InvalidWorkflow("not a workflow")


def check_workflow(system, workflow):
    """Raise InvalidSystem, or InvalidWorkflow if the workflow does not fit the system."""
    check_system(system)
    check_alone(workflow)
    if not fits(system, workflow):
        raise InvalidWorkflow("the system does not have a service or a call of the workflow")


def check_size(workflow, most):
    """Raise TooLarge if a workflow has more than so many call steps."""
    if len(calls_of(workflow)) > most:
        raise TooLarge(f"more than {most} call steps")


def call_steps(workflow):
    """Return the ascending list of the indices of the call steps of a workflow."""
    check_alone(workflow)
    return calls_of(workflow)


def name_in(step):
    """Return the name that a call, an `if` or a `return` contains."""
    return step[3] if step[0] == "call" else step[1]


def names_of(workflow):
    """Return the sorted list of the names that occur in a workflow."""
    return sorted({name_in(step) for step in workflow if step[0] != "go"})


def served(system, situation, step):
    """Return the situation after the call of a call step, and the answer."""
    service = step[1]
    state, answer = system[service][situation[service]][step[2]]
    return situation[:service] + (state,) + situation[service + 1:], answer


def following(step, at, values):
    """Return the index behind an `if` or a `go` at an index, for a dict of the values."""
    if step[0] == "go":
        return step[1]
    return step[3] if values[step[1]] == step[2] else at + 1


def plain_outcome(system, workflow, situation):
    """Return the outcome of the plain execution, for arguments that are known to be valid."""
    values = {name: 0 for name in names_of(workflow)}
    at = 0
    while workflow[at][0] != "return":
        step = workflow[at]
        if step[0] == "call":
            situation, values[step[3]] = served(system, situation, step)
            at += 1
        else:
            at = following(step, at, values)
    return situation, values[workflow[at][1]]


def plain(system, workflow, situation):
    """Return the outcome of the plain execution: the final situation and the returned value."""
    check_workflow(system, workflow)
    check_situation(system, situation)
    return plain_outcome(system, workflow, situation)


def is_calm(system, workflow, at):
    """Tell whether a call step of a workflow is calm."""
    _, service, call, _ = workflow[at]
    later = [workflow[other] for other in calls_of(workflow) if other > at]
    others = [step[2] for step in later if step[1] == service and step[2] != call]
    return repeats(system[service], call) and all([commutes(system[service], call, other) for other in others])


def calm_steps(system, workflow):
    """Return the ascending list of the calm steps of a workflow."""
    check_workflow(system, workflow)
    return [at for at in calls_of(workflow) if is_calm(system, workflow, at)]

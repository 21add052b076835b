"""Services, systems and situations, and what calls of one service have to do with each other."""

from retrykeys.errors import InvalidNumber, InvalidSituation, InvalidSystem
from retrykeys.shapes import is_answer, is_index, is_tuple


def is_reply(value, states):
    """Tell whether a value is a pair of one of so many states and an answer."""
    return is_tuple(value, 2, 2) and is_index(value[0], states) and is_answer(value[1])


def is_row(value, states, calls):
    """Tell whether a value is the row of a state, for so many states and calls."""
    return is_tuple(value, calls, calls) and all([is_reply(reply, states) for reply in value])


def is_service(value):
    """Tell whether any value is a service."""
    if not is_tuple(value, 1, 4) or not is_tuple(value[0], 1, 3):
        return False
    return all([is_row(row, len(value), len(value[0])) for row in value])


def is_system(value):
    """Tell whether any value is a system."""
    return is_tuple(value, 1, 2) and all([is_service(service) for service in value])


def is_situation(system, value):
    """Tell whether any value is a situation of a system."""
    if not is_tuple(value, len(system), len(system)):
        return False
    return all([is_index(state, len(service)) for state, service in zip(value, system)])


def is_situations(system, value):
    """Tell whether any value is a list or tuple of 1 to 4 different situations of a system."""
    if not isinstance(value, (list, tuple)) or not 1 <= len(value) <= 4:
        return False
    if not all([is_situation(system, situation) for situation in value]):
        return False
    return len(set(value)) == len(value)


def check_service(service):
    """Raise InvalidSystem if a value is not a service."""
    if not is_service(service):
        raise InvalidSystem("not a service")


def check_system(system):
    """Raise InvalidSystem if a value is not a system."""
    if not is_system(system):
        raise InvalidSystem("not a system")


def check_situation(system, situation):
    """Raise InvalidSituation if a value is not a situation of a system."""
    if not is_situation(system, situation):
        raise InvalidSituation("not a situation of the system")


def check_situations(system, situations):
    """Raise InvalidSituation if a value is not 1 to 4 different situations of a system."""
    if not is_situations(system, situations):
        raise InvalidSituation("not 1 to 4 different situations of the system")


def execute(service, state, call):
    """Return the pair of the next state and the answer of a call."""
    check_service(service)
    if not is_index(state, len(service)) or not is_index(call, len(service[0])):
        raise InvalidNumber("the service has no such state or no such call")
    return service[state][call]


def executed(service, state, calls):
    """Return the last state and the answers of several calls, one after the other."""
    answers = []
    for call in calls:
        state, answer = service[state][call]
        answers.append(answer)
    return state, answers


def repeats_in(service, state, call):
    """Tell whether executing a call twice in a state is like executing it once."""
    once, (answer,) = executed(service, state, (call,))
    twice, answers = executed(service, state, (call, call))
    return once == twice and answers == [answer, answer]


def repeats(service, call):
    """Tell whether a call of a service is repeatable."""
    return all([repeats_in(service, state, call) for state in range(len(service))])


def commutes_in(service, state, first, second):
    """Tell whether the order of two calls does not matter in a state."""
    there, answers = executed(service, state, (first, second))
    back, swapped = executed(service, state, (second, first))
    return there == back and answers == [swapped[1], swapped[0]]


def commutes(service, first, second):
    """Tell whether two different calls of a service commute."""
    return all([commutes_in(service, state, first, second) for state in range(len(service))])


def repeatable(service):
    """Return the ascending list of the repeatable calls of a service."""
    check_service(service)
    return [call for call in range(len(service[0])) if repeats(service, call)]


def commuting(service):
    """Return the pairs of calls that commute, sorted by the second call, then by the first one."""
    check_service(service)
    pairs = [(first, second) for second in range(len(service[0])) for first in range(second)]
    return [(first, second) for first, second in pairs if commutes(service, first, second)]

"""Straight workflows, the equivalent orders of their call steps, and the one that is protected at the least cost."""

from itertools import permutations

from retrykeys.costs import check_weights, cheapest_of
from retrykeys.errors import InvalidOrder, InvalidWorkflow
from retrykeys.runs import check_faults
from retrykeys.services import check_situations
from retrykeys.shapes import is_index, is_tuple
from retrykeys.workflows import calls_of, check_alone, check_workflow, plain_outcome


def is_straight(workflow):
    """Tell whether a workflow consists of at most 3 call steps, followed by a `return`."""
    many = len(calls_of(workflow))
    # The last step of a workflow is a `return`, so there is no other step beside the calls and this one.
    return many <= 3 and len(workflow) == many + 1


def is_order(workflow, value):
    """Tell whether any value is an order of a straight workflow."""
    many = len(workflow) - 1
    if not is_tuple(value, many, many) or not all([is_index(step, many) for step in value]):
        return False
    return len(set(value)) == many


def check_straight(workflow):
    """Raise InvalidWorkflow if a workflow is not straight."""
    if not is_straight(workflow):
        raise InvalidWorkflow("not at most 3 call steps, followed by a return")


def check_order(workflow, order):
    """Raise InvalidOrder if a value is not an order of a straight workflow."""
    if not is_order(workflow, order):
        raise InvalidOrder("not an order of the call steps")


def arranged(values, order):
    """Return the values at the indices of an order, in this order."""
    return tuple([values[at] for at in order])


def denoted(workflow, order):
    """Return the workflow that an order of a straight workflow denotes."""
    return arranged(workflow, order) + workflow[-1:]


def all_situations(system):
    """Return the list of all situations of a system."""
    found = [()]
    for service in system:
        found = [situation + (state,) for situation in found for state in range(len(service))]
    return found


def all_outcomes(system, workflow):
    """Return the list of the outcomes of the plain executions from all situations of a system."""
    return [plain_outcome(system, workflow, situation) for situation in all_situations(system)]


def orders_of(system, workflow):
    """Return the ascending list of the equivalent orders, for arguments that are known to be valid."""
    wanted = all_outcomes(system, workflow)
    orders = list(permutations(range(len(workflow) - 1)))
    return [order for order in orders if all_outcomes(system, denoted(workflow, order)) == wanted]


def reorder(workflow, order):
    """Return the workflow that an order of a straight workflow denotes."""
    check_alone(workflow)
    check_straight(workflow)
    check_order(workflow, order)
    return denoted(workflow, order)


def equivalent_orders(system, workflow):
    """Return the ascending list of the equivalent orders of a straight workflow."""
    check_workflow(system, workflow)
    check_straight(workflow)
    return orders_of(system, workflow)


class Reordered:
    """The best order, the cheapest protection of the workflow that it denotes, and its cost."""

    def __init__(self, order, protection, cost):
        self.order = order
        self.protection = protection
        self.cost = cost

    def __eq__(self, other):
        if not isinstance(other, Reordered):
            return False
        return self.order == other.order and self.protection == other.protection and self.cost == other.cost


def best_order(system, workflow, situations, faults, weights):
    """Return the Reordered of the first equivalent order whose cheapest protection costs least."""
    check_workflow(system, workflow)
    check_straight(workflow)
    check_situations(system, situations)
    check_faults(faults)
    check_weights(workflow, weights)
    best = None
    for order in orders_of(system, workflow):
        # The costs of a call step move with it.
        moved = (arranged(weights[0], order), arranged(weights[1], order))
        found = cheapest_of(system, denoted(workflow, order), situations, faults, moved, ((), ()))
        if best is None or found.cost < best.cost:
            best = Reordered(order, found.protection, found.cost)
    return best

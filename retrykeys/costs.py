"""What keys and checkpoints cost, and the cheapest protection that is sufficient."""

from retrykeys.deciding import shortest_run
from retrykeys.errors import InvalidWeights
from retrykeys.families import all_protections, check_family, contains, is_refuted, rank
from retrykeys.runs import Machine, check_protection
from retrykeys.shapes import is_index, is_tuple
from retrykeys.workflows import calls_of, check_alone


def is_costs(value, many):
    """Tell whether any value is a tuple of so many costs."""
    return is_tuple(value, many, many) and all([is_index(cost, 1001) for cost in value])


def is_weights(workflow, value):
    """Tell whether any value is weights of a workflow."""
    many = len(calls_of(workflow))
    return is_tuple(value, 2, 2) and all([is_costs(part, many) for part in value])


def check_weights(workflow, weights):
    """Raise InvalidWeights if a value is not weights of a workflow."""
    if not is_weights(workflow, weights):
        raise InvalidWeights("not weights of the workflow")


def check_cheapest(system, workflow, situations, faults, weights, containing):
    """Raise the errors of the arguments of `cheapest`."""
    check_family(system, workflow, situations, faults)
    check_weights(workflow, weights)
    check_protection(workflow, containing)


def cost_of(workflow, protection, weights):
    """Return the cost of a protection, for arguments that are known to be valid."""
    total = 0
    for part, costs in zip(protection, weights):
        total += sum([cost for step, cost in zip(calls_of(workflow), costs) if step in part])
    return total


def protection_cost(workflow, protection, weights):
    """Return the cost of a protection."""
    check_alone(workflow)
    check_protection(workflow, protection)
    check_weights(workflow, weights)
    return cost_of(workflow, protection, weights)


def priced(workflow, weights, containing):
    """Return the pairs of a cost and a protection that contains another one, the cheapest and first ones first."""
    options = [option for option in all_protections(workflow) if contains(option, containing)]
    rows = sorted([(cost_of(workflow, option, weights), rank(option)) for option in options])
    return [(cost, option) for cost, (_, option) in rows]


class Cheapest:
    """The cheapest protection, its cost, and runs that are bad with those that cost less."""

    def __init__(self, protection, cost, runs):
        self.protection = protection
        self.cost = cost
        self.runs = [(situation, list(events)) for situation, events in runs]

    def __eq__(self, other):
        if not isinstance(other, Cheapest):
            return False
        return self.protection == other.protection and self.cost == other.cost and self.runs == other.runs

    def is_correct(self, system, workflow, situations, faults, weights, *, containing=((), ())):
        """Return whether the current fields are a correct result of `cheapest`."""
        check_cheapest(system, workflow, situations, faults, weights, containing)
        if not all([run[0] in situations for run in self.runs]):
            return False
        found = cheapest_of(system, workflow, situations, faults, weights, containing)
        if self.protection != found.protection or self.cost != found.cost:
            return False
        cheaper = [option for cost, option in priced(workflow, weights, containing) if cost < self.cost]
        return all([is_refuted(Machine(system, workflow, option), faults, self.runs) for option in cheaper])


def cheapest_of(system, workflow, situations, faults, weights, containing):
    """Return the Cheapest for arguments that are known to be valid."""
    runs = []
    # Keys on all call steps suffice, so the loop returns.
    for cost, option in priced(workflow, weights, containing):
        machine = Machine(system, workflow, option)
        if is_refuted(machine, faults, runs):
            continue
        found = shortest_run(machine, situations, faults)
        if found is None:
            return Cheapest(option, cost, runs)
        runs.append(found)


def cheapest(system, workflow, situations, faults, weights, *, containing=((), ())):
    """Return the Cheapest of the sufficient protections that contain a given one."""
    check_cheapest(system, workflow, situations, faults, weights, containing)
    return cheapest_of(system, workflow, situations, faults, weights, containing)

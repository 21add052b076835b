"""The sufficient protections of a workflow, and the smallest and the robust ones among them."""

from itertools import combinations

from retrykeys.deciding import hits, shortest_run
from retrykeys.runs import Machine, check_faults
from retrykeys.services import check_situations
from retrykeys.workflows import calls_of, check_alone, check_size, check_workflow


def check_family(system, workflow, situations, faults):
    """Raise the errors of the arguments of a family."""
    check_workflow(system, workflow)
    check_size(workflow, 3)
    check_situations(system, situations)
    check_faults(faults)


def size(protection):
    """Return the number of keys and checkpoints together."""
    return len(protection[0]) + len(protection[1])


def rank(protection):
    """Return the place of a protection in the order of protections."""
    return size(protection), protection


def contains(protection, other):
    """Tell whether a protection has all keys and all checkpoints of another one."""
    keys, checkpoints = protection
    return all([step in keys for step in other[0]]) and all([step in checkpoints for step in other[1]])


def choices(steps):
    """Return the list of all tuples of some of the steps, each ascending."""
    return [chosen for many in range(len(steps) + 1) for chosen in combinations(steps, many)]


def all_protections(workflow):
    """Return the list of all protections of a valid workflow, in their order."""
    parts = choices(calls_of(workflow))
    return sorted([(keys, checkpoints) for keys in parts for checkpoints in parts], key=rank)


def is_refuted(machine, faults, runs):
    """Tell whether one of the runs, pairs of a situation and events, is possible and bad."""
    for situation, events in runs:
        if hits(machine, situation, faults, events):
            return True
    return False


def judged(system, workflow, situations, faults):
    """Return the list of the sufficient protections, and a list of runs that refute all others."""
    sufficient = []
    runs = []
    for protection in all_protections(workflow):
        machine = Machine(system, workflow, protection)
        # A run that is bad with one protection is often bad with others, and quicker to try than to find.
        if is_refuted(machine, faults, runs):
            continue
        found = shortest_run(machine, situations, faults)
        if found is None:
            sufficient.append(protection)
        else:
            runs.append(found)
    return sufficient, runs


def protections(workflow):
    """Return the list of all protections of a workflow, in their order."""
    check_alone(workflow)
    check_size(workflow, 3)
    return all_protections(workflow)


def sufficient_protections(system, workflow, situations, faults):
    """Return the list of the sufficient protections."""
    check_family(system, workflow, situations, faults)
    sufficient, _ = judged(system, workflow, situations, faults)
    return sufficient


def minimal_protections(system, workflow, situations, faults):
    """Return the list of the sufficient protections that contain no other sufficient one."""
    sufficient = sufficient_protections(system, workflow, situations, faults)
    found = []
    for protection in sufficient:
        if [other for other in sufficient if contains(protection, other)] == [protection]:
            found.append(protection)
    return found


def robust_protections(system, workflow, situations, faults):
    """Return the list of the protections that stay sufficient when anything is added."""
    sufficient = sufficient_protections(system, workflow, situations, faults)
    found = []
    for protection in sufficient:
        larger = [other for other in all_protections(workflow) if contains(other, protection)]
        if all([other in sufficient for other in larger]):
            found.append(protection)
    return found


def breaches(system, workflow, situations, faults):
    """Return the pairs of a sufficient protection and an insufficient one that has one part more."""
    sufficient = sufficient_protections(system, workflow, situations, faults)
    others = [other for other in all_protections(workflow) if other not in sufficient]
    pairs = [(first, second) for first in sufficient for second in others]
    return [(first, second) for first, second in pairs if contains(second, first) and size(second) == size(first) + 1]


class Family:
    """The sufficient protections, and runs that are bad with the others."""

    def __init__(self, protections, runs):
        self.protections = list(protections)
        self.runs = [(situation, list(events)) for situation, events in runs]

    def __eq__(self, other):
        return isinstance(other, Family) and self.protections == other.protections and self.runs == other.runs

    def is_correct(self, system, workflow, situations, faults):
        """Return whether the listed protections are the sufficient ones, and the runs refute the others."""
        check_family(system, workflow, situations, faults)
        if not all([run[0] in situations for run in self.runs]):
            return False
        sufficient, _ = judged(system, workflow, situations, faults)
        if self.protections != sufficient:
            return False
        others = [other for other in all_protections(workflow) if other not in sufficient]
        return all([is_refuted(Machine(system, workflow, other), faults, self.runs) for other in others])


def family(system, workflow, situations, faults):
    """Return the Family of a workflow."""
    check_family(system, workflow, situations, faults)
    sufficient, runs = judged(system, workflow, situations, faults)
    return Family(sufficient, runs)

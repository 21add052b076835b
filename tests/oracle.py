"""An independent, slow implementation of points 2 to 20, written from the document alone.

It keeps a run in mutable dicts and sets, tries every thinkable event in every state, and finds
distances with Dijkstra's algorithm over the explored graph. Two clients are two such runs that
share the states of the services; the states behind a record are found by repeated marking.
"""

import heapq
import itertools

EVENTS = [("do",), ("lose",), ("cut",), ("fall",)] + [("late", step) for step in range(10)]
CLASS_OF = {"lose": "loss", "cut": "fall", "fall": "fall", "late": "late"}
ALL_FAULTS = ("fall", "late", "loss")
FAULT_SETS = [
    tuple(chosen) for many in range(4) for chosen in itertools.combinations(ALL_FAULTS, many)
]


def names(workflow):
    found = set()
    for step in workflow:
        found |= {item for item in step[1:] if isinstance(item, str)}
    return found


def calls(workflow):
    return [index for index in range(len(workflow)) if workflow[index][0] == "call"]


def plain(system, workflow, situation):
    """The plain execution, by recursion over the steps."""

    def run(index, states, env):
        step = workflow[index]
        if step[0] == "return":
            return tuple(states), env.get(step[1], 0)
        if step[0] == "go":
            return run(step[1], states, env)
        if step[0] == "if":
            return run(step[3] if env.get(step[1], 0) == step[2] else index + 1, states, env)
        following, answer = system[step[1]][states[step[1]]][step[2]]
        changed = dict(enumerate(states))
        changed[step[1]] = following
        return run(index + 1, [changed[k] for k in range(len(states))], {**env, step[3]: answer})

    return run(0, list(situation), {})


class Run:
    """A run that can be continued; `freeze` gives its state in the form of point 6."""

    def __init__(self, system, workflow, protection, situation=None, state=None):
        self.system, self.workflow = system, workflow
        self.keys, self.checkpoints = map(set, protection)
        if state is None:
            zero = {name: 0 for name in names(workflow)}
            self.services = list(situation)
            self.memory, self.sent = {}, set()
            self.position, self.env, self.answer = 0, dict(zero), None
            self.saved_position, self.saved_env = 0, dict(zero)
        else:
            self.services = list(state[0])
            self.memory, self.sent = dict(state[1]), set(state[5])
            self.position, self.env, self.answer = state[2], dict(state[3]), state[6]
            self.saved_position, self.saved_env = state[4][0], dict(state[4][1])

    def freeze(self):
        def pairs(table):
            return tuple(sorted(table.items()))
        return (tuple(self.services), pairs(self.memory), self.position, pairs(self.env),
                (self.saved_position, pairs(self.saved_env)), tuple(sorted(self.sent)), self.answer)

    def serve(self, index):
        """The service receives a request of a step; returns the answer that it sends."""
        if index in self.memory:
            return self.memory[index]
        _, service, call, _ = self.workflow[index]
        self.services[service], answer = self.system[service][self.services[service]][call]
        if index in self.keys:
            self.memory[index] = answer
        else:
            self.sent.add(index)
        return answer

    def restart(self):
        self.position, self.env = self.saved_position, dict(self.saved_env)

    def apply(self, event):
        """Apply an event; False if it is not possible."""
        if event[0] == "late":
            if event[1] not in self.sent:
                return False
            self.serve(event[1])
            return True
        if self.position is None:
            return False
        index, step = self.position, self.workflow[self.position]
        if event[0] == "fall":
            self.restart()
            return True
        if step[0] == "call":
            answer = self.serve(index)
            if event[0] == "cut":
                self.restart()
            elif event[0] == "do":
                self.env[step[3]] = answer
                self.position = index + 1
                if index in self.checkpoints:
                    self.saved_position, self.saved_env = index + 1, dict(self.env)
            return True
        if event[0] != "do":
            return False
        if step[0] == "return":
            self.position, self.answer = None, self.env[step[1]]
        elif step[0] == "go":
            self.position = step[1]
        elif self.env[step[1]] == step[2]:
            self.position = step[3]
        else:
            self.position = index + 1
        return True


def step_from(system, workflow, protection, state, event):
    """The state after an event, or None."""
    run = Run(system, workflow, protection, state=state)
    return run.freeze() if run.apply(event) else None


def allowed(event, faults):
    return event == ("do",) or CLASS_OF[event[0]] in faults


def moves(system, workflow, protection, faults, state):
    """A dict from the possible events to the states after them."""
    found = {}
    for event in EVENTS:
        if allowed(event, faults):
            after = step_from(system, workflow, protection, state, event)
            if after is not None:
                found[event] = after
    return found


def explore(system, workflow, protection, situation, faults):
    """The graph of all reachable states: state -> event -> state."""
    first = Run(system, workflow, protection, situation).freeze()
    graph, waiting = {}, [first]
    while waiting:
        state = waiting.pop()
        if state not in graph:
            graph[state] = moves(system, workflow, protection, faults, state)
            waiting.extend(graph[state].values())
    return first, graph


def is_bad_state(system, workflow, situation, state):
    return state[2] is None and (state[0], state[6]) != plain(system, workflow, situation)


def least(system, workflow, protection, situation, faults, price):
    """The least price of a bad run from a situation, or None; `price` gives that of an event."""
    first, graph = explore(system, workflow, protection, situation, faults)
    outcome = plain(system, workflow, situation)
    best, heap, count = {first: 0}, [(0, 0, first)], 0
    while heap:
        cost, _, state = heapq.heappop(heap)
        if cost > best[state]:
            continue
        if state[2] is None and (state[0], state[6]) != outcome:
            return cost
        for event, after in graph[state].items():
            total = cost + price(event)
            if after not in best or total < best[after]:
                best[after] = total
                count += 1
                heapq.heappush(heap, (total, count, after))
    return None


def least_of_all(system, workflow, protection, situations, faults, price):
    found = [least(system, workflow, protection, situation, faults, price) for situation in situations]
    return min([cost for cost in found if cost is not None], default=None)


def one(event):
    return 1


def fault(event):
    return 0 if event == ("do",) else 1


def shortest(system, workflow, protection, situations, faults):
    """The number of events of a shortest bad run, or None."""
    return least_of_all(system, workflow, protection, situations, faults, one)


def fewest_faults(system, workflow, protection, situations, faults):
    """The least number of faults of a bad run, or None."""
    return least_of_all(system, workflow, protection, situations, faults, fault)


def follow(system, workflow, protection, situation, events, faults=ALL_FAULTS):
    """The states of a run, or None if an event is not possible."""
    run = Run(system, workflow, protection, situation)
    states = [run.freeze()]
    for event in events:
        if event not in EVENTS or not allowed(event, faults) or not run.apply(event):
            return None
        states.append(run.freeze())
    return states


def is_bad(system, workflow, protection, situation, events, faults):
    states = follow(system, workflow, protection, situation, events, faults)
    return states is not None and any(is_bad_state(system, workflow, situation, state) for state in states)


def calm(system, workflow):
    """The calm steps, by executing sequences of calls from every state."""

    def trace(service, state, sequence):
        answers = []
        for call in sequence:
            state, answer = system[service][state][call]
            answers.append((call, answer))
        return state, answers

    found = []
    for index in calls(workflow):
        _, service, call, _ = workflow[index]
        states = range(len(system[service]))
        good = all(
            trace(service, state, [call, call])[0] == trace(service, state, [call])[0]
            and len(set(trace(service, state, [call, call])[1])) == 1
            for state in states
        )
        for other in calls(workflow):
            _, where, call_there, _ = workflow[other]
            if other > index and where == service and call_there != call:
                for state in states:
                    one_way = trace(service, state, [call, call_there])
                    other_way = trace(service, state, [call_there, call])
                    good = good and one_way[0] == other_way[0] and sorted(one_way[1]) == sorted(other_way[1])
        if good:
            found.append(index)
    return found


def parts(protection):
    """A protection as a set of its keys and checkpoints."""
    return {("key", step) for step in protection[0]} | {("checkpoint", step) for step in protection[1]}


def protections(workflow):
    """All protections in their order, from subsets of the set of all parts."""
    every = [(kind, step) for kind in ("key", "checkpoint") for step in calls(workflow)]
    found = []
    for many in range(len(every) + 1):
        row = []
        for chosen in itertools.combinations(every, many):
            row.append(tuple(tuple(sorted(s for k, s in chosen if k == kind)) for kind in ("key", "checkpoint")))
        found.extend(sorted(row))
    return found


def families(system, workflow, situations, faults):
    """The sufficient, minimal and robust protections, and the breaches."""
    every = protections(workflow)
    good = [p for p in every if shortest(system, workflow, p, situations, faults) is None]
    bad = [p for p in every if p not in good]
    minimal = [p for p in good if not any(parts(q) < parts(p) for q in good)]
    robust = [p for p in good if not any(parts(q) > parts(p) for q in bad)]
    broken = []
    for p in every:
        for q in every:
            if p in good and q in bad and parts(p) < parts(q) and len(parts(q) - parts(p)) == 1:
                broken.append((p, q))
    return good, minimal, robust, broken


def price(workflow, protection, weights):
    """The cost of a protection, part by part."""
    total = 0
    for kind, step in parts(protection):
        total += weights[0 if kind == "key" else 1][calls(workflow).index(step)]
    return total


def cheapest(system, workflow, situations, faults, weights, containing):
    """The cheapest protection, its cost, and those that contain the given one and cost less."""
    options = [p for p in protections(workflow) if parts(p) >= parts(containing)]
    good = [p for p in options if shortest(system, workflow, p, situations, faults) is None]
    least_price = min(price(workflow, p, weights) for p in good)
    best = [p for p in good if price(workflow, p, weights) == least_price][0]
    return best, least_price, [p for p in options if price(workflow, p, weights) < least_price]


class Joint:
    """Two runs that share the states of the services."""

    def __init__(self, system, workflows, protections, situation=None, state=None):
        self.runs = []
        for client in (0, 1):
            whole = None if state is None else (state[0],) + state[1 + client]
            self.runs.append(Run(system, workflows[client], protections[client], situation, whole))
        self.runs[1].services = self.runs[0].services

    def freeze(self):
        first, second = (run.freeze() for run in self.runs)
        assert first[0] == second[0]
        return first[0], first[1:], second[1:]


JOINT_EVENTS = [(client, event) for client in (0, 1) for event in EVENTS]


def joint_step(system, workflows, protections, state, event):
    """The joint state after an event, or None."""
    joint = Joint(system, workflows, protections, state=state)
    return joint.freeze() if joint.runs[event[0]].apply(event[1]) else None


def joint_moves(system, workflows, protections, faults, state):
    """A dict from the possible joint events to the joint states after them."""
    found = {}
    for event in JOINT_EVENTS:
        if allowed(event[1], faults):
            after = joint_step(system, workflows, protections, state, event)
            if after is not None:
                found[event] = after
    return found


def joint_graph(system, workflows, protections, situation, faults):
    """The first joint state, and all reachable ones with the joint states after them."""
    first = Joint(system, workflows, protections, situation).freeze()
    graph, waiting = {}, [first]
    while waiting:
        state = waiting.pop()
        if state not in graph:
            graph[state] = list(joint_moves(system, workflows, protections, faults, state).values())
            waiting.extend(graph[state])
    return first, graph


def is_bad_joint(system, workflows, situation, state):
    """Whether both clients have returned, and no order of the workflows leads to this."""
    if state[1][1] is not None or state[2][1] is not None:
        return False
    for order in ((0, 1), (1, 0)):
        services, results = situation, {}
        for client in order:
            services, results[client] = plain(system, workflows[client], services)
        if (services, results[0], results[1]) == (state[0], state[1][5], state[2][5]):
            return False
    return True


def joint_shortest(system, workflows, protections, situations, faults):
    """The number of events of a shortest bad joint run, or None."""
    lengths = []
    for situation in situations:
        first, graph = joint_graph(system, workflows, protections, situation, faults)
        distance = {state: 0 if state == first else len(graph) for state in graph}
        waiting = [first]
        for state in waiting:
            for after in graph[state]:
                if distance[after] > distance[state] + 1:
                    distance[after] = distance[state] + 1
                    waiting.append(after)
        lengths.extend(distance[state] for state in graph if is_bad_joint(system, workflows, situation, state))
    return min(lengths, default=None)


def is_bad_joint_run(system, workflows, protections, situation, events, faults):
    """Whether a joint run is possible and bad."""
    state = Joint(system, workflows, protections, situation).freeze()
    bad = False
    for event in events:
        if event not in JOINT_EVENTS or not allowed(event[1], faults):
            return False
        state = joint_step(system, workflows, protections, state, event)
        if state is None:
            return False
        bad = bad or is_bad_joint(system, workflows, situation, state)
    return bad


def written(workflow, state, event, after):
    """The entries that an event writes: a list of one or none."""
    kind = "late" if event[0] == "late" else (event[0], workflow[state[2]][0])
    if kind == ("do", "call"):
        return [("answer", state[2], dict(after[3])[workflow[state[2]][3]])]
    if kind == ("do", "return"):
        return [("return", after[6])]
    if kind == ("lose", "call"):
        return [("timeout", state[2])]
    return [("fall",)] if kind[0] in ("cut", "fall") else []


def record(system, workflow, protection, situation, events):
    """The record of a run that is possible."""
    states = follow(system, workflow, protection, situation, events)
    entries = []
    for index, event in enumerate(events):
        entries += written(workflow, states[index], event, states[index + 1])
    return entries


def explained(system, workflow, protection, situation, faults, entries):
    """For each number of entries, a dict from the states in which exactly these are written to the fewest events."""
    first, graph = explore(system, workflow, protection, situation, faults)
    levels = [{} for _ in range(len(entries) + 1)]
    levels[0][first] = 0
    for many, level in enumerate(levels):
        changed = True
        while changed:
            changed = False
            for state in list(level):
                for event, after in graph[state].items():
                    if not written(workflow, state, event, after) and level[state] + 1 < level.get(after, 10 ** 9):
                        level[after] = level[state] + 1
                        changed = True
        if many < len(entries):
            for state in level:
                for event, after in graph[state].items():
                    if written(workflow, state, event, after) == [entries[many]]:
                        known = levels[many + 1].get(after, 10 ** 9)
                        levels[many + 1][after] = min(known, level[state] + 1)
    return levels


def examination(system, workflow, protection, situations, faults, entries):
    """The fewest events of an explanation or None, the number of entries that are explained, the states behind them."""
    tables = [explained(system, workflow, protection, s, faults, entries) for s in situations]
    many = max(k for k in range(len(entries) + 1) if any(levels[k] for levels in tables))
    fewest = min((events for levels in tables for events in levels[-1].values()), default=None)
    return fewest, many, [set(levels[many]) for levels in tables]


def explains(system, workflow, protection, situation, events, faults, entries):
    """Whether a run is possible and writes exactly these entries."""
    if follow(system, workflow, protection, situation, events, faults) is None:
        return False
    return record(system, workflow, protection, situation, events) == list(entries)


def rearranged(workflow, order):
    """The straight workflow that an order denotes."""
    return (*[workflow[step] for step in order], workflow[-1])


def every_situation(system):
    return list(itertools.product(*[range(len(service)) for service in system]))


def equivalent(system, workflow):
    """The equivalent orders of a straight workflow, in ascending order."""
    found = set()
    for order in itertools.permutations(calls(workflow)):
        other = rearranged(workflow, order)
        if not any(plain(system, workflow, s) != plain(system, other, s) for s in every_situation(system)):
            found.add(order)
    return sorted(found)


def best(system, workflow, situations, faults, weights):
    """The best order with its cheapest protection and the cost, as the least of all triples."""
    options = []
    for order in equivalent(system, workflow):
        moved = tuple(tuple(costs[step] for step in order) for costs in weights)
        protection, cost, _ = cheapest(system, rearranged(workflow, order), situations, faults, moved, ((), ()))
        options.append((cost, order, protection))
    cost, order, protection = min(options)
    return order, protection, cost

"""Plans as texts: a system, a workflow, and a protection, in lines."""

from retrykeys.errors import ParseError
from retrykeys.runs import check_protection, is_protection
from retrykeys.services import is_system
from retrykeys.workflows import check_workflow, fits, is_name, is_workflow

# The kinds of lines that may follow a line of a kind, and those that may stand first.
FOLLOWING = {
    "service": ("row",),
    "row": ("row", "service", "workflow"),
    "workflow": ("step",),
    "step": ("step", "keys"),
    "keys": ("checkpoints",),
    "checkpoints": (),
}
FIRST = ("service",)

# What stands behind the first word of a step: numbers and names.
FORMS = {
    "call": ("number", "number", "name"),
    "if": ("name", "number", "number"),
    "go": ("number",),
    "return": ("name",),
}


def row_line(row):
    """Return the line for a state of a service."""
    return "  " + " ".join([f"{state}/{answer}" for state, answer in row])


def step_line(step):
    """Return the line for a step of a workflow."""
    return "  " + " ".join([str(item) for item in step])


def numbers_line(word, numbers):
    """Return the line for the keys or the checkpoints."""
    return " ".join([word] + [str(number) for number in numbers])


def written(system, workflow, protection):
    """Return the text of a plan."""
    check_workflow(system, workflow)
    check_protection(workflow, protection)
    lines = []
    for service in system:
        lines.append("service")
        lines.extend([row_line(row) for row in service])
    lines.append("workflow")
    lines.extend([step_line(step) for step in workflow])
    lines.append(numbers_line("keys", protection[0]))
    lines.append(numbers_line("checkpoints", protection[1]))
    return "".join([line + "\n" for line in lines])


def is_number(word):
    """Tell whether a word is a number of at most three digits, without leading zeros."""
    if not 1 <= len(word) <= 3 or not all(["0" <= digit <= "9" for digit in word]):
        return False
    return word == "0" or word[0] != "0"


def has_form(word, form):
    """Tell whether a word is a number, or a name."""
    return is_number(word) if form == "number" else is_name(word)


def item_of(word):
    """Return the number or the name that a word denotes."""
    return int(word) if is_number(word) else word


def numbers_of(words):
    """Return the tuple of the numbers that words denote, or None if a word denotes none."""
    if not all([is_number(word) for word in words]):
        return None
    return tuple([int(word) for word in words])


def row_of(words):
    """Return the row of a service that words denote, or None if they denote none."""
    pairs = [numbers_of(word.split("/")) for word in words]
    if not all([pair is not None and len(pair) == 2 for pair in pairs]):
        return None
    return tuple(pairs)


def step_of(words):
    """Return the step that words denote, or None if they denote none."""
    forms = FORMS.get(words[0])
    if forms is None or len(words) != len(forms) + 1:
        return None
    if not all([has_form(word, form) for word, form in zip(words[1:], forms)]):
        return None
    return (words[0],) + tuple([item_of(word) for word in words[1:]])


def value_of(line, kind):
    """Return the value of a line, or None if it does not have the form of this kind."""
    if kind in ("row", "step"):
        if not line.startswith("  "):
            return None
        words = line[2:].split(" ")
        return row_of(words) if kind == "row" else step_of(words)
    words = line.split(" ")
    if words[0] != kind:
        return None
    if kind in ("keys", "checkpoints"):
        return numbers_of(words[1:])
    return () if len(words) == 1 else None


def part_of(line, kinds):
    """Return the pair of the kind and the value of a line of one of the kinds, or None if it has none of them."""
    for kind in kinds:
        value = value_of(line, kind)
        if value is not None:
            return kind, value
    return None


def parts_of(lines):
    """Return the pairs of the kinds and values of lines, or raise ParseError for the first that cannot stand there."""
    parts = []
    kinds = FIRST
    for index, line in enumerate(lines):
        part = part_of(line, kinds)
        if part is None:
            raise ParseError(index)
        parts.append(part)
        kinds = FOLLOWING[part[0]]
    return parts


def plan_of(parts):
    """Return the triple of a system, a workflow, and a protection that the lines of a whole text denote."""
    services = []
    steps = []
    for kind, value in parts:
        if kind == "service":
            services.append([])
        if kind == "row":
            services[-1].append(value)
        if kind == "step":
            steps.append(value)
    (_, keys), (_, checkpoints) = parts[-2:]
    return tuple([tuple(rows) for rows in services]), tuple(steps), (keys, checkpoints)


def is_plan(system, workflow, protection):
    """Tell whether values form a plan."""
    if not is_system(system) or not is_workflow(workflow):
        return False
    return fits(system, workflow) and is_protection(workflow, protection)


def read(text):
    """Return the plan that a text denotes."""
    if not isinstance(text, str):
        raise ParseError(0)
    lines = text.split("\n")
    rest = lines.pop()
    parts = parts_of(lines)
    if rest != "" or not parts or parts[-1][0] != "checkpoints":
        raise ParseError(len(lines))
    system, workflow, protection = plan_of(parts)
    if not is_plan(system, workflow, protection):
        raise ParseError(0)
    return system, workflow, protection

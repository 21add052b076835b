"""An independent writer and reader of plans, and an independent coder of events (points 21 and 22).

Lines are told apart by regular expressions; what may follow what is one over their kinds.
"""

import re

from tests import oracle

NUMBER = "(?:0|[1-9][0-9]{0,2})"
NAME = "[a-z]{1,8}"
KINDS = {
    "s": "service",
    "r": f"  {NUMBER}/{NUMBER}(?: {NUMBER}/{NUMBER})*",
    "w": "workflow",
    "t": f"  (?:call {NUMBER} {NUMBER} {NAME}|if {NAME} {NUMBER} {NUMBER}|go {NUMBER}|return {NAME})",
    "k": f"keys(?: {NUMBER})*",
    "c": f"checkpoints(?: {NUMBER})*",
}
BEGINNING = "(?:sr+)*s?|(?:sr+)+(?:w(?:t+(?:kc?)?)?)?"
WHOLE = "(?:sr+)+wt+kc"


def write(system, workflow, protection):
    text = ""
    for service in system:
        text += "service\n"
        for row in service:
            text += " "
            for following, answer in row:
                text += " %d/%d" % (following, answer)
            text += "\n"
    text += "workflow\n"
    for step in workflow:
        text += " "
        for item in step:
            text += " %s" % item
        text += "\n"
    for word, steps in zip(("keys", "checkpoints"), protection):
        text += word
        for step in steps:
            text += " %d" % step
        text += "\n"
    return text


def kind_of(line):
    """The letter for the kind of a line, or `?`."""
    found = [letter for letter, form in KINDS.items() if re.fullmatch(form, line)]
    return found[0] if found else "?"


def values(line):
    """The words of a line, numbers as integers."""
    return tuple(int(word) if word.isdigit() else word for word in line.split())


def read(text):
    """A pair of a plan and None, or of None and the line of the error."""
    end = text.rfind("\n") + 1
    lines = text[:end].split("\n")[:-1]
    kinds = "".join(map(kind_of, lines))
    for index in range(len(lines)):
        if not re.fullmatch(BEGINNING, kinds[:index + 1]):
            return None, index
    if not re.fullmatch(WHOLE, kinds) or end < len(text):
        return None, len(lines)
    system = tuple(
        tuple(tuple(tuple(map(int, pair.split("/"))) for pair in lines[index].split()) for index in range(*where.span(1)))
        for where in re.finditer("s(r+)", kinds)
    )
    workflow = tuple(values(line) for line, kind in zip(lines, kinds) if kind == "t")
    plan = system, workflow, (values(lines[-2])[1:], values(lines[-1])[1:])
    return (plan, None) if is_plan(*plan) else (None, 0)


def is_plan(system, workflow, protection):
    """Whether values that were read are within the limits of points 2, 3 and 5."""
    for service in system:
        widths = {len(row) for row in service}
        if len(service) > 4 or len(widths) > 1 or max(widths) > 3:
            return False
        if any(following >= len(service) or answer > 9 for row in service for following, answer in row):
            return False
    calls = oracle.calls(workflow)
    if len(system) > 2 or len(workflow) > 10 or len(calls) > 4 or workflow[-1][0] != "return":
        return False
    for index, step in enumerate(workflow):
        if step[0] == "call" and (step[1] >= len(system) or step[2] >= len(system[step[1]][0])):
            return False
        if step[0] == "if" and step[2] > 9:
            return False
        if step[0] in ("if", "go") and not index < step[-1] < len(workflow):
            return False
    return all(list(part) == sorted(set(part) & set(calls)) for part in protection)


CODES = {"00": ("do",), "01": ("lose",), "02": ("cut",), "03": ("fall",)}
CODES.update(("%02x" % (4 + step), ("late", step)) for step in range(10))


def encode(events):
    return "".join(code for event in events for code, other in CODES.items() if event == other)


def decode(text):
    """A pair of events and None, or of None and a tuple with the offset of the error."""
    if not re.fullmatch("(?:[0-9a-f][0-9a-f])*", text) or text.endswith("\n"):
        return None, (None,)
    codes = re.findall("..", text)
    unknown = [offset for offset, code in enumerate(codes) if code not in CODES]
    return (None, (unknown[0],)) if unknown else ([CODES[code] for code in codes], None)

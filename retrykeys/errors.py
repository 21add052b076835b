"""The errors of the package: RetryError and its direct subclasses."""


class RetryError(ValueError):
    """The base class of all errors of the package."""


class InvalidSystem(RetryError):
    """A value is not a system, or not a service."""


class InvalidNumber(RetryError):
    """A state or a call does not exist."""


class InvalidWorkflow(RetryError):
    """A value is not a workflow, or the system does not have what it uses."""


class InvalidSituation(RetryError):
    """A value is not a situation of the system, or not a list of situations."""


class InvalidProtection(RetryError):
    """A value is not a protection of the workflow."""


class InvalidFaults(RetryError):
    """A value is not a set of faults."""


class InvalidState(RetryError):
    """A value does not have the form of the state of a run."""


class InvalidEvent(RetryError):
    """An event is not possible, or a value is not a list of events."""

    def __init__(self, index):
        super().__init__(f"no possible event at index {index}")
        self.index = index


class TooLarge(RetryError):
    """A workflow has too many call steps for a computation."""


class InvalidWeights(RetryError):
    """A value is not a pair of costs for the call steps."""


class InvalidRecord(RetryError):
    """A value is not a record of the workflow."""


class InvalidOrder(RetryError):
    """A value is not an order of the call steps."""


class ParseError(RetryError):
    """A text does not denote a plan."""

    def __init__(self, line):
        super().__init__(f"no plan, because of line {line}")
        self.line = line


class DecodeError(RetryError):
    """A string does not encode events."""

    def __init__(self, offset):
        super().__init__(f"no event at offset {offset}")
        self.offset = offset

"""Questions about the shape of any value, which all modules ask."""


def is_integer(value):
    """Tell whether a value is an integer; True and False are not."""
    return isinstance(value, int) and not isinstance(value, bool)


def is_index(value, size):
    """Tell whether a value is an integer from 0 to size - 1."""
    return is_integer(value) and 0 <= value < size


def is_answer(value):
    """Tell whether a value is an answer of a call."""
    return is_index(value, 10)


def is_tuple(value, least, most):
    """Tell whether a value is a tuple with a number of items between two bounds."""
    return isinstance(value, tuple) and least <= len(value) <= most


def is_selection(value, options):
    """Tell whether a value is a tuple of some of the options, each once, in their order."""
    if not isinstance(value, tuple):
        return False
    # True == 1, so the kinds of the items are looked at before the items are compared.
    if not all([is_integer(item) or isinstance(item, str) for item in value]):
        return False
    return list(value) == [option for option in options if option in value]

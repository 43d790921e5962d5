"""Questions about the kinds of values, for all other files."""


def is_integer(value):
    """Whether the value is an integer; booleans are none."""
    return isinstance(value, int) and not isinstance(value, bool)


def is_within(value, least, most):
    """Whether the value is an integer from least to most."""
    return is_integer(value) and least <= value <= most


def is_tuple_within(value, least, most):
    """Whether the value is a tuple of integers from least to most."""
    return isinstance(value, tuple) and all([is_within(item, least, most) for item in value])


def is_ascending(items):
    """Whether each of the items is less than the next one."""
    return all([items[at - 1] < items[at] for at in range(1, len(items))])

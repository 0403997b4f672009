"""Forms of values that more than one module asks for. value may be any value."""


def is_number(value, least, most):
    """Whether value is an integer from least to most."""
    # For Python True is an integer, too; here it never stands for 1.
    return isinstance(value, int) and not isinstance(value, bool) and least <= value <= most


def is_pair(value):
    """Whether value is a tuple of two items."""
    return isinstance(value, tuple) and len(value) == 2


def ascends(row):
    """Whether each item of the row, all of one comparable kind, is greater than the one ahead."""
    return all([row[k] < row[k + 1] for k in range(len(row) - 1)])

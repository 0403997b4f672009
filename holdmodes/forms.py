"""Forms of values that more than one module asks for. value may be any value."""


def is_number(value, least, most):
    """Whether value is an integer from least to most."""
    # For Python True is an integer, too; here it never stands for 1.
    return isinstance(value, int) and not isinstance(value, bool) and least <= value <= most


def is_pair(value):
    """Whether value is a tuple of two items."""
    return isinstance(value, tuple) and len(value) == 2


def is_row(value, least, most):
    """Whether value is a tuple of least to most items."""
    return isinstance(value, tuple) and least <= len(value) <= most


def ascends(row):
    """Whether each item of the row, all of one comparable kind, is greater than the one ahead."""
    return all([row[k] < row[k + 1] for k in range(len(row) - 1)])


def is_number_pair(many, value):
    """Whether value is a pair of numbers of so many items, the first one not greater than the second."""
    if not is_pair(value):
        return False
    low, high = value
    return is_number(low, 0, many - 1) and is_number(high, 0, many - 1) and low <= high


def are_number_pairs(many, value):
    """Whether value is an ascending tuple of such pairs."""
    if not isinstance(value, tuple):
        return False
    return all([is_number_pair(many, item) for item in value]) and ascends(value)

"""Modes raised: to which modes a hold is raised, and raises that wait for one another in a ring."""

from holdmodes.bounds import MAX_RAISES
from holdmodes.forms import is_number, is_pair, is_row
from holdmodes.modes import covers, goes


def ups(modes, at, wish):
    """The numbers of the least of the modes that cover both modes[at] and wish, ascending."""
    able = [k for k in range(len(modes)) if covers(modes[k], modes[at]) and covers(modes[k], wish)]
    return tuple([k for k in able if not any([covers(modes[k], modes[j]) for j in able if j != k])])


def unjoined(modes):
    """The first pair of numbers of modes that are not raised to just one mode, None if there is none."""
    for i in range(len(modes)):
        for j in range(i + 1, len(modes)):
            if len(ups(modes, i, modes[j])) != 1:
                return i, j
    return None


def are_raises(modes, value):
    """Whether value, any value, is raises of the modes."""
    if not is_row(value, 1, MAX_RAISES) or not all([is_raise(modes, item) for item in value]):
        return False
    return len(set(value)) == len(value)


def is_raise(modes, value):
    """Whether value is one raise of the modes."""
    if not is_pair(value):
        return False
    low, high = value
    if not is_number(low, 0, len(modes) - 1) or not is_number(high, 0, len(modes) - 1):
        return False
    return low != high and covers(modes[high], modes[low])


def standoff(rules, modes, raises):
    """The first one of the shortest standoffs, None if there is none."""
    numbers = list(range(len(raises)))
    beside = [[holds_beside(rules, modes, raises, k, j) for j in numbers] for k in numbers]
    waiting = [[waits_for(rules, modes, raises, k, j) for j in numbers] for k in numbers]
    rows = [(k,) for k in numbers]
    # In a row where a raise comes again it closes a ring, which was found as a shorter row, or as (k, k). So the
    # rows end at last.
    while rows:
        rows = [(*row, k) for row in rows for k in numbers if follows(beside, waiting, row, k)]
        for ring in rows:
            if waiting[ring[-1]][ring[0]]:
                return ring
    return None


def follows(beside, waiting, row, k):
    """Whether the raise k can stand next in the row: the last one waits for it, and all hold side by side."""
    return waiting[row[-1]][k] and all([beside[j][k] for j in row])


def holds_beside(rules, modes, raises, k, j):
    """Whether the modes held under the raises k and j go together."""
    return goes(rules, modes[raises[k][0]], modes[raises[j][0]])


def waits_for(rules, modes, raises, k, j):
    """Whether what is asked by the raise k does not go with what is held under j."""
    return not goes(rules, modes[raises[k][1]], modes[raises[j][0]])


def is_standoff(rules, modes, raises, value):
    """Whether value, any value, is a standoff of the raises."""
    if not isinstance(value, tuple) or len(value) < 2:
        return False
    if not all([is_number(item, 0, len(raises) - 1) for item in value]):
        return False
    # value[-1] is the last one, for which the first one is the next. A long value has few unlike steps.
    steps = sorted({(value[k - 1], value[k]) for k in range(len(value))})
    if not all([waits_for(rules, modes, raises, k, j) for k, j in steps]):
        return False
    return all([holds_beside(rules, modes, raises, k, j) for k, j in held_pairs(value)])


def held_pairs(row):
    """The unlike pairs of numbers that two places of the row have."""
    numbers = sorted(set(row))
    return [(k, j) for k in numbers for j in numbers if k < j or k == j and row.count(k) > 1]

"""Tables of modes: which go together, how few are enough, and which are put together."""

from holdmodes.forms import are_number_pairs
from holdmodes.modes import covers, goes, is_mode
from holdmodes.rules import against, has_all


def table(rules, modes):
    """The pairs (i, j), i <= j, of numbers of modes that go together, ascending."""
    return tuple([(i, j) for i, j in number_pairs(modes) if goes(rules, modes[i], modes[j])])


def number_pairs(modes):
    """All pairs (i, j), i <= j, of numbers of modes, ascending."""
    return [(i, j) for i in range(len(modes)) for j in range(i, len(modes))]


def table_error(rules, modes, value):
    """None if value, any value, is the table of the modes; otherwise what is wrong first."""
    if not are_number_pairs(len(modes), value):
        return ("table",)
    right = table(rules, modes)
    lets = [pair for pair in value if pair not in right]
    if lets:
        return "lets", *lets[0]
    bars = [pair for pair in right if pair not in value]
    if bars:
        return "bars", *bars[0]
    return None


def full(rules, mode):
    """The greatest mode that goes with just the modes with which this one goes."""
    return widened(rules, mode[0]), widened(rules, mode[1])


def widened(rules, lot):
    """The greatest lot that has just the acts against it that this one has."""
    barred = against(rules, lot)
    return tuple([act for act in range(rules[0]) if has_all(barred, against(rules, (act,)))])


def alike(rules, one, other):
    """Whether the two modes go with just the same modes."""
    # What goes with a mode means nothing that is against its own, and owns nothing that is against its means. The
    # greatest of such modes has every act that is in neither lot, so that no other two lots let the same modes go.
    return [against(rules, lot) for lot in one] == [against(rules, lot) for lot in other]


def kinds(rules):
    """All modes that full tells, ascending."""
    # full widens own and means apart, so any two wide lots, the one with all of the other, are such a mode.
    wide = sorted({widened(rules, lot) for lot in all_lots(rules[0])})
    return tuple([(own, means) for own in wide for means in wide if has_all(means, own)])


def all_lots(acts):
    """All lots of so many acts."""
    lots = [()]
    for act in range(acts):
        lots = lots + [(*lot, act) for lot in lots]
    return lots


def serves(rules, modes, value):
    """Whether value, any value, is a tuple of modes of which one can stand for each of the modes."""
    if not isinstance(value, tuple) or not all([is_mode(rules, item) for item in value]):
        return False
    held = sorted(set(value))
    return all([is_served(rules, mode, held) for mode in modes])


def is_served(rules, mode, held):
    """Whether one of the held modes covers the mode and is alike to it."""
    return any([covers(item, mode) and alike(rules, item, mode) for item in held])


def fewest(rules, modes):
    """The modes that full tells of the modes, ascending."""
    return tuple(sorted({full(rules, mode) for mode in modes}))


def lost(rules, modes, grouping):
    """How many pairs of the table are lost when the modes are held as grouped."""
    right = table(rules, modes)
    return losses(right, barred_pairs(modes, right), grouping)


def barred_pairs(modes, right):
    """The pairs of numbers of modes that do not stand in right, the table of them."""
    return [pair for pair in number_pairs(modes) if pair not in right]


def losses(right, barred, grouping):
    """How many of the pairs that are right are lost by the grouping."""
    # What is joined goes with a mode just if each of its parts does, so one barred pair bars its two groups.
    apart = {group_pair(grouping, pair) for pair in barred}
    return len([pair for pair in right if group_pair(grouping, pair) in apart])


def group_pair(grouping, pair):
    """The pair of the groups in which the two modes of the pair are, the lesser one first."""
    one, other = grouping[pair[0]], grouping[pair[1]]
    return min(one, other), max(one, other)


def groups(rules, modes, most):
    """The first grouping of at most so many groups of those that lose the fewest pairs."""
    right = table(rules, modes)
    barred = barred_pairs(modes, right)
    # min tells the first one of the best, and the groupings ascend.
    return min(groupings(len(modes), most), key=lambda grouping: losses(right, barred, grouping))


def groupings(many, most):
    """All groupings of so many modes into at most so many groups, ascending."""
    rows = [(0,)]
    for _ in range(1, many):
        rows = [(*row, group) for row in rows for group in range(group_bound(row, most))]
    return rows


def group_bound(row, most):
    """How many groups the mode behind this row of groups can choose from."""
    used = max(row) + 1
    return min(used + 1, max(used, most))

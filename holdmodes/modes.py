"""Modes: what a holder may do, and may come to do, on a thing and within it."""

from holdmodes.forms import is_pair
from holdmodes.rules import against, has_all, is_lot, lot_of


def is_mode(rules, value):
    """Whether value, any value, is a mode of the rules."""
    if not is_pair(value):
        return False
    own, means = value
    acts = rules[0]
    return is_lot(acts, own) and is_lot(acts, means) and has_all(means, own)


def covers(one, other):
    """Whether the mode one has all that the mode other has."""
    return has_all(one[0], other[0]) and has_all(one[1], other[1])


def joined(one, other):
    """The mode that has what the one or the other has."""
    return lot_of(one[0] + other[0]), lot_of(one[1] + other[1])


def goes(rules, one, other):
    """Whether two holders may have the modes on one thing."""
    return not hinders(rules, one, other) and not hinders(rules, other, one)


def hinders(rules, one, other):
    """Whether an act of one's own is against an act of other's means."""
    return any([act in other[1] for act in against(rules, one[0])])

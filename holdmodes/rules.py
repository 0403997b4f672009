"""Rules, which tell what may be done side by side, and lots of their acts."""

from holdmodes.bounds import MAX_ACTS
from holdmodes.forms import ascends, is_number, is_pair


def rules_error(value):
    """None if value, any value, is rules; otherwise the word of what is wrong first."""
    if not is_pair(value):
        return "rules"
    acts, beside = value
    if not is_number(acts, 1, MAX_ACTS):
        return "acts"
    if not is_beside(acts, beside):
        return "beside"
    return None


def is_beside(acts, value):
    """Whether value is an ascending tuple of pairs of so many acts."""
    if not isinstance(value, tuple):
        return False
    return all([is_act_pair(acts, item) for item in value]) and ascends(value)


def is_act_pair(acts, value):
    """Whether value is a pair of acts, the first one not greater than the second."""
    if not is_pair(value):
        return False
    low, high = value
    return is_number(low, 0, acts - 1) and is_number(high, 0, acts - 1) and low <= high


def is_lot(acts, value):
    """Whether value is a lot of so many acts."""
    if not isinstance(value, tuple):
        return False
    return all([is_number(act, 0, acts - 1) for act in value]) and ascends(value)


def against(rules, lot):
    """The lot of all acts that are against some act of the lot."""
    return tuple([act for act in range(rules[0]) if is_against(rules, act, lot)])


def is_against(rules, act, lot):
    """Whether the act is against some act of the lot."""
    beside = rules[1]
    return any([(min(act, other), max(act, other)) not in beside for other in lot])

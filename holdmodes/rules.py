"""Rules, which tell what may be done side by side, and lots of their acts."""

from holdmodes.bounds import MAX_ACTS
from holdmodes.forms import are_number_pairs, ascends, is_number, is_pair


def rules_error(value):
    """None if value, any value, is rules; otherwise the word of what is wrong first."""
    if not is_pair(value):
        return "rules"
    acts, beside = value
    if not is_number(acts, 1, MAX_ACTS):
        return "acts"
    if not are_number_pairs(acts, beside):
        return "beside"
    return None


def is_lot(acts, value):
    """Whether value is a lot of so many acts."""
    if not isinstance(value, tuple):
        return False
    return all([is_number(act, 0, acts - 1) for act in value]) and ascends(value)


def lot_of(acts):
    """The lot of the acts, which stand in any order, some perhaps twice."""
    return tuple(sorted(set(acts)))


def has_all(lot, other):
    """Whether all acts of the other lot stand in the lot."""
    return all([act in lot for act in other])


def against(rules, lot):
    """The lot of all acts that are against some act of the lot."""
    return tuple([act for act in range(rules[0]) if is_against(rules, act, lot)])


def is_against(rules, act, lot):
    """Whether the act is against some act of the lot."""
    beside = rules[1]
    return any([(min(act, other), max(act, other)) not in beside for other in lot])


def first_against(rules, lot, other):
    """The first pair of an act of the lot and one of the other lot that are against one another, None without one."""
    for act in lot:
        for with_act in other:
            if is_against(rules, act, (with_act,)):
                return act, with_act
    return None

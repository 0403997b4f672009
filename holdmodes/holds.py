"""Trees of things, and the holds of several holders on them."""

from holdmodes.bounds import MAX_HOLDERS, MAX_THINGS
from holdmodes.forms import ascends, is_number, is_pair, is_row
from holdmodes.modes import goes, is_mode
from holdmodes.rules import first_against, has_all, lot_of


def tree_error(value):
    """None if value, any value, is a tree; otherwise "tree", or the number of the first wrong item."""
    if not is_row(value, 1, MAX_THINGS):
        return "tree"
    for number in range(len(value)):
        if not is_parent(number, value[number]):
            return number
    return None


def is_parent(number, value):
    """Whether value may stand in a tree as its item of this number."""
    if number == 0:
        return value is None
    return is_number(value, 0, number - 1)


def around(tree, thing):
    """The things around the thing, from 0 on, itself last."""
    row = ()
    place = thing
    while place is not None:
        row = (place, *row)
        place = tree[place]
    return row


def are_holds(rules, tree, value):
    """Whether value, any value, is holds of the tree and the rules."""
    if not isinstance(value, tuple) or not all([is_hold(rules, tree, item) for item in value]):
        return False
    # Without the modes, so that a holder has one hold on a thing at most.
    return ascends([item[:2] for item in value])


def is_hold(rules, tree, value):
    """Whether value is one hold."""
    if not is_row(value, 3, 3):
        return False
    holder, thing, mode = value
    return is_number(holder, 0, MAX_HOLDERS - 1) and is_number(thing, 0, len(tree) - 1) and is_mode(rules, mode)


def fault(rules, tree, holds):
    """None if the holds are fair, otherwise the first thing that is wrong with them."""
    lack = around_fault(tree, holds)
    if lack is not None:
        return lack
    return go_fault(rules, tree, holds, 0)


def around_fault(tree, holds):
    """("around", number, thing) of the first hold that lacks one around it, None if none does."""
    means = {(holder, thing): mode[1] for holder, thing, mode in holds}
    for number, (holder, thing, mode) in enumerate(holds):
        for place in around(tree, thing):
            if (holder, place) not in means or not has_all(means[holder, place], mode[1]):
                return "around", number, place
    return None


def go_fault(rules, tree, holds, least):
    """("go", thing, one, other) of the first modes on a thing from least on that do not go, None without such."""
    for thing in range(least, len(tree)):
        held = [(holder, mode) for holder, place, mode in holds if place == thing]
        for k, (one, mode) in enumerate(held):
            for other, with_mode in held[k + 1:]:
                if not goes(rules, mode, with_mode):
                    return "go", thing, one, other
    return None


def may(tree, holds, holder, thing):
    """The lot of the acts that the holder may do on the thing."""
    places = around(tree, thing)
    return lot_of([act for who, place, mode in holds if who == holder and place in places for act in mode[0]])


def clash(rules, tree, holds):
    """The first (thing, one, other, act, with_act) of acts that clash, None if there are none."""
    for thing in range(len(tree)):
        found = clash_on(rules, tree, holds, thing)
        if found is not None:
            return thing, *found
    return None


def clash_on(rules, tree, holds, thing):
    """The first (one, other, act, with_act) of holders and acts that clash on the thing, None if there are none."""
    holders = sorted({hold[0] for hold in holds})
    lots = [(holder, may(tree, holds, holder, thing)) for holder in holders]
    for k, (one, lot) in enumerate(lots):
        for other, with_lot in lots[k + 1:]:
            pair = first_against(rules, lot, with_lot)
            if pair is not None:
                return one, other, *pair
    return None


def meeting(rules, one, other):
    """A meeting of the two modes, None if there is none."""
    tree = (None, 0)
    pair = first_against(rules, one[0], other[1])
    if pair is not None:
        act = pair[1]
        return tree, ((0, 0, one), (1, 0, other), (1, 1, ((act,), (act,))))
    pair = first_against(rules, one[1], other[0])
    if pair is not None:
        act = pair[0]
        return tree, ((0, 0, one), (0, 1, ((act,), (act,))), (1, 0, other))
    return None


def is_meeting(rules, one, other, value):
    """Whether value, any value, is a meeting of the two modes."""
    if not is_pair(value):
        return False
    tree, holds = value
    if tree_error(tree) is not None or len(tree) > 2 or not are_holds(rules, tree, holds):
        return False
    if (0, 0, one) not in holds or (1, 0, other) not in holds or any([hold[0] > 1 for hold in holds]):
        return False
    if around_fault(tree, holds) is not None or go_fault(rules, tree, holds, 1) is not None:
        return False
    return clash(rules, tree, holds) is not None

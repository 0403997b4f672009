"""What the tests draw on: rules, modes, trees, holds and plans, made here from the
words of the document and without the package, and values of every other kind."""

import itertools
import random

from holdmodes import errors
from holdmodes.desks import Desk
from holdmodes.yards import Yard

R = (3, ((0, 0), (2, 2)))
S = ((0,), (0,))
X = ((1,), (1,))
I = ((), (1,))
T = (None, 0, 0, 1)
# The errors with the names of their fields.
HOLD_ERRORS = {
    "BadMode": ("mode",), "BadText": ("number",), "BadYard": ("word", "error"), "Barred": ("thing", "other"),
    "Full": (), "NothingToUndo": (),
}
LOOKUP_ERRORS = {"NoAct": ("act",), "NoHold": ("holder",), "NoHolder": ("holder",), "NoThing": ("thing",)}
FIELDS = HOLD_ERRORS | LOOKUP_ERRORS


def act_pairs(acts):
    """All pairs (i, j), i <= j, of so many acts, ascending."""
    return [(i, j) for i in range(acts) for j in range(i, acts)]


def subsets(items):
    """All tuples of some of the items, in their order."""
    items = list(items)
    return [chosen for many in range(len(items) + 1) for chosen in itertools.combinations(items, many)]


def all_rules(acts):
    return [(acts, beside) for beside in subsets(act_pairs(acts))]


def all_lots(acts):
    return subsets(range(acts))


def all_modes(acts):
    return [(own, means) for means in all_lots(acts) for own in subsets(means)]


def drawn_rules(seed, many):
    """So many rules of one to six acts, each number of acts as often as the others."""
    draw = random.Random(seed)
    drawn = []
    for k in range(many):
        acts = k % 6 + 1
        chance = draw.random()
        drawn.append((acts, tuple(pair for pair in act_pairs(acts) if draw.random() < chance)))
    return drawn


def drawn_mode(draw, acts):
    kinds = [draw.randrange(3) for _ in range(acts)]
    own = tuple(act for act in range(acts) if kinds[act] == 2)
    return own, tuple(act for act in range(acts) if kinds[act] > 0)


def may_beside(rules, act, other):
    """Whether two holders may do the acts side by side, as the table says."""
    return (act, other) in rules[1] or (other, act) in rules[1]


def held_yard():
    """A yard in which two holders have five holds."""
    yard = Yard(R, T)
    yard.ask(0, 3, 1)
    yard.ask(1, 2, 1)
    return yard


def package_objects():
    """Objects of classes of the package."""
    return [
        Yard(R, T), held_yard(), Desk(held_yard()),
        errors.HoldError(), errors.BadMode(S), errors.BadText(0), errors.BadYard("rules", "acts"),
        errors.Barred(0, 1), errors.Full(), errors.NothingToUndo(), errors.NoAct(6),
        errors.NoHold(0), errors.NoHolder(4), errors.NoThing(12),
    ]


def nested(depth, wrap):
    value = 0
    for _ in range(depth):
        value = wrap(value)
    return value


def odd_values():
    """Values of every kind that are neither rules nor a mode, a lot, a pair of acts, or an act."""
    return [
        None, True, False, -1, 7, 10 ** 39, -10 ** 39, "", "0", "ab", "rules", "\n", "x" * 2000,
        [], [0], [0, 1], [[], []], [(0,), (0,)], [1, ()], [3, ((0, 0),)],
        {}, {0: 1}, {0: (), 1: ()}, {"own": (), "means": ()},
        ((),), ((), (), ()), (((), ()), ((), ())), (None, None), ("", ""), ("0", "0"), ({}, {}), ([], []),
        (True, True), (-1, -1), (7, 7), (0.5, 0.5), b"ab",
        nested(12, lambda value: (value, value) if value == 0 else (value,)), nested(12, lambda value: [value]),
        nested(12, lambda value: {"a": value}), tuple(range(10000)), ((0,),) * 10000, ((0, 0),) * 5000,
        ("x",) * 10000, list(range(10000)),
    ] + package_objects() + [(thing, ()) for thing in package_objects()] + [((), thing) for thing in package_objects()]


def is_odd_act(value):
    """Whether value, one of odd_values, is an act of no rules."""
    return not (type(value) is int and 0 <= value < 6)


def all_trees(many):
    """All trees of so many things."""
    return [(None,) + parents for parents in itertools.product(*[range(thing) for thing in range(1, many)])]


def drawn_tree(draw, many):
    """A tree of so many things: a path, a star or of any shape."""
    shape = draw.randrange(6)
    if shape == 0:
        return (None,) + tuple(range(many - 1))
    if shape == 1:
        return (None,) + (0,) * (many - 1)
    return (None,) + tuple(draw.randrange(thing) for thing in range(1, many))


def drawn_trees(seed, many):
    """So many trees of one to twelve things, each number of things as often as the others."""
    draw = random.Random(seed)
    return [drawn_tree(draw, k % 12 + 1) for k in range(many)]


def drawn_modes(draw, acts, most):
    """One to most unlike modes of so many acts, in any order."""
    found = {drawn_mode(draw, acts) for _ in range(draw.randint(1, most))}
    modes = sorted(found)
    draw.shuffle(modes)
    return tuple(modes)


def drawn_plan(draw, tree, acts, most=20):
    """A plan of at most so many pairs."""
    pairs = [(thing, act) for thing in range(len(tree)) for act in range(acts)]
    return tuple(sorted(draw.sample(pairs, min(len(pairs), draw.randint(1, most)))))


def drawn_holds(draw, tree, acts, holders=4):
    """Holds of any modes on any things."""
    chance = draw.random()
    return tuple((holder, thing, drawn_mode(draw, acts)) for holder in range(holders) for thing in range(len(tree))
                 if draw.random() < chance)


def changed(value):
    """Values that are like this one, but for one part: it is a list, a bool, left out, doubled, or another number;
    or two parts beside one another have changed places."""
    if type(value) is int:
        return [value - 1, value + 1, -1, 12, 99, None, str(value), (value,), [value], 10 ** 39,
                bool(value)]
    if type(value) is not tuple:
        return [0, (), not value]
    found = [list(value), value + (0,), value + ((),), value[:-1] + ((),), (value,), None, {}]
    for at, part in enumerate(value):
        ahead, behind = value[:at], value[at + 1:]
        found += [ahead + behind, ahead + (part, part) + behind]
        found += [ahead + (other,) + behind for other in changed(part)]
        found += [value[:at - 1] + (part, value[at - 1]) + behind] if at > 0 else []
    return found


def with_odd_parts(value, odd):
    """The values that are like this one, but with something odd in the place of one part, or put in."""
    found = [odd]
    if type(value) is tuple:
        for at in range(len(value)):
            found += [value[:at] + (part,) + value[at + 1:] for part in with_odd_parts(value[at], odd)]
        found += [value + (odd,), (odd,) + value]
    return found

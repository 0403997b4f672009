"""Plans: the holds that they take, whether two plans go, and how holds are gathered into few."""

from holdmodes.bounds import MAX_PLANNED
from holdmodes.forms import ascends, is_number, is_pair, is_row
from holdmodes.holds import are_holds, around, fault
from holdmodes.modes import goes
from holdmodes.rules import first_against, lot_of


def is_plan(rules, tree, value):
    """Whether value, any value, is a plan for the tree with acts of the rules."""
    if not is_row(value, 1, MAX_PLANNED):
        return False
    return all([is_planned(rules, tree, item) for item in value]) and ascends(value)


def is_planned(rules, tree, value):
    """Whether value is one pair of a plan."""
    if not is_pair(value):
        return False
    thing, act = value
    return is_number(thing, 0, len(tree) - 1) and is_number(act, 0, rules[0] - 1)


def least_holds(tree, plan):
    """The pairs (thing, mode) of the holds that a holder takes for the plan, ascending."""
    needed = [pair for pair in plan if not is_planned_around(tree, plan, pair)]
    modes = [least_mode(tree, needed, thing) for thing in range(len(tree))]
    return tuple([(thing, mode) for thing, mode in enumerate(modes) if mode[1]])


def is_planned_around(tree, plan, pair):
    """Whether the act of the pair is planned for another thing around its thing."""
    thing, act = pair
    return any([(place, act) in plan for place in around(tree, thing)[:-1]])


def least_mode(tree, needed, thing):
    """The mode in which the thing is held for the needed pairs of a plan."""
    own = [act for place, act in needed if place == thing]
    means = [act for place, act in needed if thing in around(tree, place)]
    return lot_of(own), lot_of(means)


def go_beside(rules, tree, plan, other):
    """Whether two holders can take the holds of the two plans at once."""
    others = dict(least_holds(tree, other))
    return all([goes(rules, mode, others[thing]) for thing, mode in least_holds(tree, plan) if thing in others])


def meet(rules, tree, plan, other):
    """The first (thing, act, with_act) that the plans want and that are against one another, None without such."""
    wanted = rights(tree, plan)
    others = rights(tree, other)
    for thing in range(len(tree)):
        pair = first_against(rules, wanted[thing], others[thing])
        if pair is not None:
            return thing, *pair
    return None


def rights(tree, pairs):
    """For each thing the lot of the acts that the pairs (thing, act) stand for there: those of things around it."""
    lots = []
    for thing in range(len(tree)):
        here = [act for place, act in pairs if place == thing]
        # The parent has a lesser number, so that its lot is there.
        above = lots[tree[thing]] if thing > 0 else ()
        lots.append(lot_of([*above, *here]))
    return lots


def rights_many(tree, pairs):
    """How many rights the pairs (thing, act) give."""
    return sum([len(lot) for lot in rights(tree, pairs)])


def gathered(tree, plan, most):
    """A gathering of the plan of at most so many pairs with as few rights as can be."""
    return least_holds(tree, gathered_plan(tree, plan, most))


def gathered_plan(tree, plan, most):
    """The plan with its acts moved up, as few as can be, so that it takes at most so many holds."""
    # To hold another thing than those of the least holds saves no right, and to hold more of these loses none.
    things = [pair[0] for pair in least_holds(tree, plan)]
    choices = held_choices(tree, things, min(most, len(things)))
    moved = [moved_up(tree, plan, held) for held in choices]
    return min(moved, key=lambda pairs: rights_many(tree, pairs))


def held_choices(tree, things, many):
    """All rows of so many of the things in which the parent of each one stands, too."""
    rows = [things[:1]]
    for thing in things[1:]:
        rows = rows + [[*row, thing] for row in rows if tree[thing] in row and len(row) < many]
    return [row for row in rows if len(row) == many]


def moved_up(tree, plan, held):
    """The plan with each act on the nearest thing around that is held."""
    return tuple(sorted({(nearest(tree, held, thing), act) for thing, act in plan}))


def nearest(tree, held, thing):
    """The innermost held thing around the thing."""
    return [place for place in around(tree, thing) if place in held][-1]


def spare(tree, plan, most):
    """How many rights more the gathered holds have than the least ones."""
    return rights_many(tree, gathered_plan(tree, plan, most)) - rights_many(tree, plan)


def is_gathered(rules, tree, plan, most, value):
    """Whether value, any value, is a gathering of the plan of at most so many pairs with as few rights as can be."""
    if not are_held(rules, tree, value) or len(value) > most:
        return False
    owned = [(thing, act) for thing, mode in value for act in mode[0]]
    given = rights(tree, owned)
    if not all([act in given[thing] for thing, act in plan]):
        return False
    return rights_many(tree, owned) == rights_many(tree, gathered_plan(tree, plan, most))


def are_held(rules, tree, value):
    """Whether value is an ascending tuple of pairs (thing, mode) as a holder may hold them."""
    if not isinstance(value, tuple) or not all([is_pair(item) for item in value]):
        return False
    holds = tuple([(0, *item) for item in value])
    return are_holds(rules, tree, holds) and fault(rules, tree, holds) is None

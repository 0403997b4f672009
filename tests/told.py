"""What the document says, word by word and without the package: the tests hold
the package against it. Where an argument is called value, it may be any value."""

import functools
import itertools

from tests.samples import all_modes, may_beside


def told_number(value, least, most):
    return type(value) is int and least <= value <= most


def told_row(value, many):
    """Whether value is a tuple of so many items."""
    return type(value) is tuple and len(value) == many


def told_ascends(row):
    return list(row) == sorted(set(row))


# Acts and modes

def told_rules_error(value):
    if not told_row(value, 2):
        return "rules"
    acts, beside = value
    if not told_number(acts, 1, 6):
        return "acts"
    if type(beside) is not tuple or not all(told_row(pair, 2) for pair in beside):
        return "beside"
    if not all(told_number(j, 0, acts - 1) and told_number(i, 0, j) for i, j in beside):
        return "beside"
    return None if told_ascends(beside) else "beside"


def told_lot(rules, value):
    return type(value) is tuple and all(told_number(act, 0, rules[0] - 1) for act in value) and told_ascends(value)


def told_is_mode(rules, value):
    if not told_row(value, 2) or not all(told_lot(rules, lot) for lot in value):
        return False
    return set(value[0]) <= set(value[1])


@functools.lru_cache(maxsize=None)
def told_goes(rules, one, other):
    """Whether the modes go, word by word."""
    for own, means in ((one[0], other[1]), (other[0], one[1])):
        for act, with_act in itertools.product(own, means):
            if not may_beside(rules, act, with_act):
                return False
    return True


def told_covers(one, other):
    return set(other[0]) <= set(one[0]) and set(other[1]) <= set(one[1])


@functools.lru_cache(maxsize=None)
def told_joined(one, other):
    return tuple(tuple(act for act in range(6) if act in one[k] + other[k]) for k in (0, 1))


# Trees and holds

def told_tree_error(value):
    if type(value) is not tuple or len(value) not in range(1, 13):
        return "tree"
    wrong = [number for number in range(1, len(value)) if not told_number(value[number], 0, number - 1)]
    if value[0] is not None:
        return 0
    return min(wrong, default=None)


def told_within(tree, thing, place):
    """Whether the thing is within the place."""
    return thing == place or (thing != 0 and told_within(tree, tree[thing], place))


def told_around(tree, thing):
    # An earlier thing is never within a later one, so these stand from the outermost one on.
    return tuple(place for place in range(len(tree)) if told_within(tree, thing, place))


def told_are_holds(rules, tree, value):
    if type(value) is not tuple or not all(told_row(hold, 3) for hold in value):
        return False
    for holder, thing, mode in value:
        if not told_number(holder, 0, 3) or not told_number(thing, 0, len(tree) - 1) or not told_is_mode(rules, mode):
            return False
    return told_ascends(value) and len({hold[:2] for hold in value}) == len(value)


def told_lacks(tree, holds):
    """All ("around", number, thing), in their order."""
    return [
        ("around", number, place)
        for number, (holder, thing, mode) in enumerate(holds) for place in told_around(tree, thing)
        if not any((who, where) == (holder, place) and set(mode[1]) <= set(held[1]) for who, where, held in holds)
    ]


def told_bars(rules, tree, holds):
    """All ("go", thing, one, other), in their order."""
    return sorted(
        ("go", thing, one, other)
        for (one, thing, mode), (other, place, with_mode) in itertools.product(holds, repeat=2)
        if one < other and thing == place and not told_goes(rules, mode, with_mode)
    )


def told_fault(rules, tree, holds):
    return (told_lacks(tree, holds) + told_bars(rules, tree, holds) + [None])[0]


def told_may(tree, holds, holder, thing):
    acts = {act for who, place, mode in holds if who == holder and told_within(tree, thing, place) for act in mode[0]}
    return tuple(sorted(acts))


def told_clash(rules, tree, holds):
    found = []
    for thing in range(len(tree)):
        lots = [told_may(tree, holds, holder, thing) for holder in range(4)]
        for one, other in itertools.combinations(range(4), 2):
            found += [(thing, one, other, act, with_act) for act, with_act in itertools.product(lots[one], lots[other])
                      if not may_beside(rules, act, with_act)]
    return min(found, default=None)


def told_is_meeting(rules, one, other, value):
    if not told_row(value, 2):
        return False
    tree, holds = value
    if told_tree_error(tree) is not None or len(tree) > 2 or not told_are_holds(rules, tree, holds):
        return False
    modes = {(holder, thing): mode for holder, thing, mode in holds}
    if not {holder for holder, thing in modes} <= {0, 1}:
        return False
    if modes.get((0, 0)) != one or modes.get((1, 0)) != other:
        return False
    if told_lacks(tree, holds) or [bar for bar in told_bars(rules, tree, holds) if bar[1] != 0]:
        return False
    return told_clash(rules, tree, holds) is not None


# Tables of modes

def told_table(rules, modes):
    numbers = range(len(modes))
    return tuple((i, j) for i in numbers for j in numbers if i <= j and told_goes(rules, modes[i], modes[j]))


def told_table_error(rules, modes, value):
    numbers = range(len(modes))
    pairs = [(i, j) for i in numbers for j in numbers if i <= j]
    if type(value) is not tuple:
        return ("table",)
    for pair in value:
        if not told_row(pair, 2) or not all(type(number) is int for number in pair) or pair not in pairs:
            return ("table",)
    if not told_ascends(value):
        return ("table",)
    right = set(told_table(rules, modes))
    for word, pairs in (("lets", set(value) - right), ("bars", right - set(value))):
        if pairs:
            return (word,) + min(pairs)
    return None


def told_friends(rules, mode, modes=None):
    """The set of the modes, all of the rules if none are told, that go with the mode."""
    return {other for other in modes or all_modes(rules[0]) if told_goes(rules, mode, other)}


def told_alike(rules, one, other):
    return told_friends(rules, one) == told_friends(rules, other)


def told_serves(rules, modes, value):
    if type(value) is not tuple or not all(told_is_mode(rules, item) for item in value):
        return False
    return all(any(told_covers(item, mode) and told_alike(rules, item, mode) for item in set(value)) for mode in modes)


def told_groupings(many):
    """All groupings of so many modes, ascending."""
    return [row for row in itertools.product(range(many), repeat=many)
            if all(number <= max(row[:at], default=-1) + 1 for at, number in enumerate(row))]


def told_lost(rules, modes, grouping):
    held = []
    for group in grouping:
        whole = ((), ())
        for mode, number in zip(modes, grouping):
            whole = told_joined(whole, mode) if number == group else whole
        held.append(whole)
    return len([pair for pair in told_table(rules, modes) if not told_goes(rules, held[pair[0]], held[pair[1]])])


def told_groups(rules, modes, most):
    rows = [row for row in told_groupings(len(modes)) if len(set(row)) <= most]
    return min((told_lost(rules, modes, row), row) for row in rows)[1]


# Modes raised

def told_ups(modes, at, wish):
    able = {k for k, mode in enumerate(modes) if told_covers(mode, modes[at]) and told_covers(mode, wish)}
    return tuple(sorted(k for k in able if not [j for j in able - {k} if told_covers(modes[k], modes[j])]))


def told_unjoined(modes):
    pairs = itertools.combinations(range(len(modes)), 2)
    return next(((i, j) for i, j in pairs if len(told_ups(modes, i, modes[j])) != 1), None)


def told_are_raises(modes, value):
    if type(value) is not tuple or not 1 <= len(value) <= 8:
        return False
    for item in value:
        if not told_row(item, 2) or not all(told_number(number, 0, len(modes) - 1) for number in item):
            return False
        if item[0] == item[1] or not told_covers(modes[item[1]], modes[item[0]]):
            return False
    return len(set(value)) == len(value)


def told_is_standoff(rules, modes, raises, value):
    if type(value) is not tuple or len(value) < 2 or not all(told_number(k, 0, len(raises) - 1) for k in value):
        return False
    held = [modes[raises[k][0]] for k in value]
    asked = [modes[raises[k][1]] for k in value]
    if not all(told_goes(rules, one, other) for one, other in itertools.combinations(held, 2)):
        return False
    return not any(told_goes(rules, one, other) for one, other in zip(asked, held[1:] + held[:1]))


def told_standoff(rules, modes, raises, most):
    """The first one of the shortest standoffs of at most so many holders, None if there is none."""
    for many in range(2, most + 1):
        for row in itertools.product(range(len(raises)), repeat=many):
            if told_is_standoff(rules, modes, raises, row):
                return row
    return None


# Plans

def told_is_plan(rules, tree, value):
    if type(value) is not tuple or not 1 <= len(value) <= 20 or not all(told_row(item, 2) for item in value):
        return False
    for thing, act in value:
        if not told_number(thing, 0, len(tree) - 1) or not told_number(act, 0, rules[0] - 1):
            return False
    return told_ascends(value)


def told_least_holds(tree, plan):
    own = {thing: set() for thing in range(len(tree))}
    means = {thing: set() for thing in range(len(tree))}
    for thing, act in plan:
        if not [place for place in told_around(tree, thing) if place != thing and (place, act) in plan]:
            own[thing].add(act)
            for place in told_around(tree, thing):
                means[place].add(act)
    return tuple((thing, (tuple(sorted(own[thing])), tuple(sorted(means[thing])))) for thing in own if means[thing])


def told_go_beside(rules, tree, plan, other):
    pairs = itertools.product(told_least_holds(tree, plan), told_least_holds(tree, other))
    return all(told_goes(rules, mode, with_mode) for (thing, mode), (place, with_mode) in pairs if thing == place)


def told_meet(rules, tree, plan, other):
    found = []
    for (place, act), (with_place, with_act) in itertools.product(plan, other):
        if not may_beside(rules, act, with_act):
            found += [(thing, act, with_act) for thing in range(len(tree))
                      if told_within(tree, thing, place) and told_within(tree, thing, with_place)]
    return min(found, default=None)


def told_rights(tree, pairs):
    """The set of the rights of pairs (thing, mode)."""
    return {(thing, act) for place, mode in pairs for act in mode[0]
            for thing in range(len(tree)) if told_within(tree, thing, place)}


def told_is_gathering(rules, tree, plan, value):
    """Whether value is a gathering of the plan, of however many pairs and rights."""
    if type(value) is not tuple or not all(told_row(item, 2) for item in value):
        return False
    for thing, mode in value:
        if not told_number(thing, 0, len(tree) - 1) or not told_is_mode(rules, mode):
            return False
    modes = dict(value)
    if not told_ascends(value) or len(modes) < len(value):
        return False
    for thing, mode in value:
        for place in told_around(tree, thing):
            if place not in modes or not set(mode[1]) <= set(modes[place][1]):
                return False
    return set(plan) <= told_rights(tree, value)


def told_closed_sets(tree):
    """All sets of things with each of which those around it are held."""
    things = range(len(tree))
    sets = itertools.chain(*[itertools.combinations(things, many) for many in range(1, len(tree) + 1)])
    return [held for held in sets if all(thing == 0 or tree[thing] in held for thing in held)]


def told_fewest_rights(tree, plan, most, sets=None):
    """With how few rights at most so many things are held for the plan, going through all sets of things: each pair
    needs its act in own of one of the held things around, of which the innermost one gives the fewest rights."""
    counts = []
    for held in sets or told_closed_sets(tree):
        if len(held) <= most:
            own = [(max(place for place in told_around(tree, thing) if place in held), act) for thing, act in plan]
            counts.append(len(told_rights(tree, [(place, ((act,), (act,))) for place, act in own])))
    return min(counts)


def told_fewest_of_all(tree, plan, acts, most):
    """The same, going through all that the held things may have in own."""
    lots = [tuple(act for act in range(acts) if number >> act & 1) for number in range(2 ** acts)]
    counts = []
    for held in told_closed_sets(tree):
        if len(held) <= most:
            for owns in itertools.product(lots, repeat=len(held)):
                given = told_rights(tree, [(thing, (own, own)) for thing, own in zip(held, owns)])
                counts += [len(given)] if set(plan) <= given else []
    return min(counts)


def told_is_gathered(rules, tree, plan, most, value):
    if not told_is_gathering(rules, tree, plan, value) or len(value) > most:
        return False
    return len(told_rights(tree, value)) == told_fewest_rights(tree, plan, most)


# Taken one by one

def told_are_courses(rules, value):
    if type(value) is not tuple or not 1 <= len(value) <= 4:
        return False
    for course in value:
        if type(course) is not tuple or not 1 <= len(course) <= 8 or not all(told_row(step, 2) for step in course):
            return False
        if not all(told_number(thing, 0, 11) and told_is_mode(rules, mode) for thing, mode in course):
            return False
    return True


@functools.lru_cache(maxsize=None)
def told_taken(steps, thing):
    """What a holder has on the thing by the steps, None if it has nothing there."""
    modes = [mode for place, mode in steps if place == thing]
    whole = ((), ())
    for mode in modes:
        whole = told_joined(whole, mode)
    return whole if modes else None


def told_waits(rules, courses, run):
    """The pairs (holder, other) of which the one waits for the other behind the run."""
    done = [list(run).count(holder) for holder in range(len(courses))]
    pairs = []
    for holder, other in itertools.permutations(range(len(courses)), 2):
        course, with_course = courses[holder], courses[other]
        # Who has done all steps waits for nobody, and has nothing for which one could wait.
        if done[holder] < len(course) and done[other] < len(with_course):
            thing = course[done[holder]][0]
            wish, held = told_taken(course[:done[holder] + 1], thing), told_taken(with_course[:done[other]], thing)
            if held is not None and not told_goes(rules, wish, held):
                pairs.append((holder, other))
    return tuple(pairs)


def told_next(rules, courses, run):
    """The holders that can do their next step behind the run."""
    waiting = {holder for holder, _ in told_waits(rules, courses, run)}
    return [holder for holder, course in enumerate(courses)
            if list(run).count(holder) < len(course) and holder not in waiting]


def told_is_run(rules, courses, value):
    if type(value) is not tuple or not all(told_number(holder, 0, len(courses) - 1) for holder in value):
        return False
    return all(value[at] in told_next(rules, courses, value[:at]) for at in range(len(value)))


def told_is_stuck(rules, courses, run):
    """Whether the courses are stuck behind the run."""
    undone = {holder for holder, course in enumerate(courses) if run.count(holder) < len(course)}
    return bool(undone) and undone == {holder for holder, _ in told_waits(rules, courses, run)}


def told_all_runs(rules, courses):
    """All runs, the shorter ones ahead, those of one length in their order."""
    runs = found = [()]
    while found:
        found = [run + (holder,) for run in found for holder in told_next(rules, courses, run)]
        runs = runs + found
    return runs


def told_stuck(rules, courses):
    """The first one of the shortest runs behind which the courses are stuck, going through all runs."""
    return next((run for run in told_all_runs(rules, courses) if told_is_stuck(rules, courses, run)), None)


def told_stuck_by_states(rules, courses):
    """The same, going through the states of steps done, each of which has one shortest way on to being stuck."""
    ways = {}

    def way(done):
        if done not in ways:
            run = tuple(holder for holder, many in enumerate(done) for _ in range(many))
            # What the courses are behind a run hangs on how many steps each holder has done alone.
            on = [(holder, way(done[:holder] + (done[holder] + 1,) + done[holder + 1:]))
                  for holder in told_next(rules, courses, run)]
            rows = [(holder,) + row for holder, row in on if row is not None]
            best = min(rows, key=lambda row: (len(row), row), default=None)
            ways[done] = () if told_is_stuck(rules, courses, run) else best
        return ways[done]

    return way((0,) * len(courses))


def told_is_straight(courses):
    return all(told_ascends([thing for thing, _ in course]) for course in courses)


def told_straightened(courses):
    things = [sorted({thing for thing, _ in course}) for course in courses]
    return tuple(tuple((thing, told_taken(course, thing)) for thing in row) for course, row in zip(courses, things))

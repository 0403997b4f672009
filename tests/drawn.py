"""Cases that several tests draw, each list of them from a fixed seed."""

import itertools
import random

from tests.samples import act_pairs, drawn_mode, drawn_modes, drawn_rules, drawn_tree
from tests.told import told_around, told_bars, told_covers, told_joined


def tree_cases(seed, many, things=12):
    """Rules, a tree of at most so many things and the source of what else is drawn, so many times."""
    draw = random.Random(seed)
    return [(rules, drawn_tree(draw, k // 6 % things + 1), draw) for k, rules in enumerate(drawn_rules(seed, many))]


def mode_cases(seed, many, most=12):
    """Rules and at most so many unlike modes of them, so many times."""
    draw = random.Random(seed)
    return [(rules, drawn_modes(draw, rules[0], most)) for rules in drawn_rules(seed, many)]


def fair_holds(draw, rules, tree, deeds):
    """Fair holds, grown by so many deeds: each one joins a hold with what it is to have, and those around it with
    what this means, and stands if all modes go then."""
    modes = {}
    for _ in range(deeds):
        holder, thing = draw.randrange(4), draw.randrange(len(tree))
        kinds = [draw.randrange(6) for _ in range(rules[0])]
        own = tuple(act for act in range(rules[0]) if kinds[act] == 0)
        means = tuple(act for act in range(rules[0]) if kinds[act] <= 1)
        grown = dict(modes)
        for place in told_around(tree, thing):
            part = (own, means) if place == thing else ((), means)
            grown[holder, place] = told_joined(grown.get((holder, place), ((), ())), part)
        if not told_bars(rules, tree, [(who, place, mode) for (who, place), mode in grown.items()]):
            modes = grown
    return tuple(sorted((who, place, mode) for (who, place), mode in modes.items()))


def drawn_raises(draw, modes, most=8):
    """Raises of the modes, None if no mode covers another."""
    pairs = [(i, j) for i, j in itertools.permutations(range(len(modes)), 2) if told_covers(modes[j], modes[i])]
    draw.shuffle(pairs)
    return tuple(pairs[:draw.randint(1, most)]) or None


def raise_cases(seed, many, modes=12, raises=8):
    """Rules, modes and raises, and the source of what else is drawn, about so many times."""
    draw = random.Random(seed)
    cases = []
    for rules in drawn_rules(seed, many):
        rows = drawn_modes(draw, rules[0], modes)
        # What is joined covers its parts, so that there is something to raise to.
        rows += tuple({told_joined(one, other): 0 for one, other in zip(rows, rows[1:])})
        rows = tuple(dict.fromkeys(rows))[-modes:]
        pairs = drawn_raises(draw, rows, raises)
        cases += [(rules, rows, pairs, draw)] if pairs else []
    return cases


def ring(draw, many, more=0):
    """Rules of six acts, modes and raises, of which so many, up to six, wait for one another in a ring, each for the
    next alone; behind them so many more raises of the same modes; and the standoff of the ring. The raises of the ring
    stand in any order."""
    acts = draw.sample(range(6), many)
    # 0 is against 1, 2 against 3, 4 against 5, and all else goes.
    rules = 6, tuple(pair for pair in act_pairs(6) if pair not in ((0, 1), (2, 3), (4, 5)))
    held = [((), (acts[k - 1] ^ 1,)) for k in range(many)]
    asked = [told_joined(held[k], ((acts[k],), (acts[k],))) for k in range(many)]
    modes = tuple(held + asked)
    order = draw.sample(range(many), many)
    raises = tuple((k, many + k) for k in order)
    others = tuple(pair for pair in drawn_raises(draw, modes) if pair not in raises)
    row = tuple(order.index(k) for k in range(many))
    turn = row.index(0)
    return rules, modes, raises + others[:more], row[turn:] + row[:turn]


def drawn_courses(draw, acts, holders=4, steps=8, things=12):
    """Courses of one to so many holders, each of one to so many steps on so many things."""
    def step():
        act = draw.randrange(acts)
        mode = draw.choice((((act,), (act,)), ((), (act,)), drawn_mode(draw, acts)))
        return draw.randrange(draw.randint(1, things)), mode

    return tuple(tuple(step() for _ in range(draw.randint(1, steps))) for _ in range(draw.randint(1, holders)))


def course_cases(seed, many, holders=4, steps=8, things=12):
    """Rules, courses and the source of what else is drawn, so many times."""
    draw = random.Random(seed)
    return [(rules, drawn_courses(draw, rules[0], holders, steps, things), draw) for rules in drawn_rules(seed, many)]


def tangled_cases(seed, many, holders=4, steps=8):
    """Rules of two acts or more and courses of two to so many holders, who take the same few things, each in an order
    of its own, in modes some of which go: so that the courses often get stuck."""
    draw = random.Random(seed)
    cases = []
    for k in range(many):
        acts = k % 5 + 2
        chance = draw.choice((0.1, 0.3, 0.6))
        rules = acts, tuple(pair for pair in act_pairs(acts) if draw.random() < chance)
        modes = [((act,), (act,)) for act in range(acts)] * 4 + [((), (act,)) for act in range(acts)] + [((), ())]
        things = list(range(draw.randint(2, max(2, steps))))
        rows = []
        for _ in range(draw.randint(2, holders)):
            row = draw.choices(things, k=draw.randint(2, steps))
            rows.append(row if draw.randrange(3) else draw.sample(things, len(things)))
        cases.append((rules, tuple(tuple((thing, draw.choice(modes)) for thing in row[:steps]) for row in rows), draw))
    return cases


def drawn_run(draw, courses, able):
    """A run, grown by holders drawn from those that able tells behind it, for some steps or to its end."""
    run = ()
    while able(run) and draw.randrange(20):
        run += (draw.choice(able(run)),)
    return run

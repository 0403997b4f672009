"""Courses: holders who take their holds one by one, and may get stuck."""

from holdmodes.bounds import MAX_HOLDERS, MAX_STEPS, MAX_THINGS
from holdmodes.forms import ascends, is_number, is_pair, is_row
from holdmodes.modes import goes, is_mode, joined


def are_courses(rules, value):
    """Whether value, any value, is courses."""
    return is_row(value, 1, MAX_HOLDERS) and all([is_course(rules, item) for item in value])


def is_course(rules, value):
    """Whether value is one course."""
    return is_row(value, 1, MAX_STEPS) and all([is_step(rules, item) for item in value])


def is_step(rules, value):
    """Whether value is one step."""
    if not is_pair(value):
        return False
    thing, mode = value
    return is_number(thing, 0, MAX_THINGS - 1) and is_mode(rules, mode)


def taken(steps):
    """For each thing of the steps the mode to which they join there."""
    modes = {}
    for thing, mode in steps:
        modes[thing] = joined(modes[thing], mode) if thing in modes else mode
    return modes


def wait_table(rules, course, other):
    """Whether the holder of the course waits for that of the other one: table[done][other_done], by steps done."""
    # Who has done all steps has given all back, and waits for nobody.
    held = [taken(other[:k]) for k in range(len(other))] + [{}]
    table = []
    for k in range(len(course)):
        thing = course[k][0]
        mode = taken(course[:k + 1])[thing]
        table.append([thing in modes and not goes(rules, mode, modes[thing]) for modes in held])
    return table + [[False] * len(held)]


def wait_tables(rules, courses):
    """The tables of all pairs of courses: tables[holder][other]."""
    return [[wait_table(rules, course, other) for other in courses] for course in courses]


def waiting(tables, done):
    """The pairs (holder, other) of which the one waits for the other, done telling how many steps each has done."""
    pairs = [(holder, other) for holder in range(len(done)) for other in range(len(done)) if holder != other]
    return [(holder, other) for holder, other in pairs if tables[holder][other][done[holder]][done[other]]]


def ready(tables, courses, done):
    """The holders who have a next step and wait for nobody, ascending."""
    barred = [holder for holder, _ in waiting(tables, done)]
    return [holder for holder in range(len(courses)) if done[holder] < len(courses[holder]) and holder not in barred]


def is_run(rules, courses, value):
    """Whether value, any value, is a run of the courses."""
    if not isinstance(value, tuple) or not all([is_number(item, 0, len(courses) - 1) for item in value]):
        return False
    tables = wait_tables(rules, courses)
    done = [0] * len(courses)
    for holder in value:
        if holder not in ready(tables, courses, done):
            return False
        done[holder] += 1
    return True


def waits(rules, courses, run):
    """The pairs (holder, other) of which, behind the run, the one waits for the other, ascending."""
    done = [run.count(holder) for holder in range(len(courses))]
    return tuple(waiting(wait_tables(rules, courses), done))


def stuck(rules, courses):
    """The first one of the shortest runs behind which the courses are stuck, None if there is none."""
    tables = wait_tables(rules, courses)
    ends = tuple([len(course) for course in courses])
    # The first run to each state of steps done, all of one length and in their order, so that the longer ones come out
    # in theirs.
    runs = {(0,) * len(courses): ()}
    while runs:
        longer = {}
        for done, run in runs.items():
            holders = ready(tables, courses, done)
            if not holders and done != ends:
                return run
            for holder in holders:
                behind = (*done[:holder], done[holder] + 1, *done[holder + 1:])
                longer.setdefault(behind, (*run, holder))
        runs = longer
    return None


def is_straight(courses):
    """Whether in each course the things of the steps ascend."""
    return all([ascends([step[0] for step in course]) for course in courses])


def straightened(courses):
    """The courses with each thing once, ascending, in the mode to which all steps on it join."""
    return tuple([tuple(sorted(taken(course).items())) for course in courses])

"""Yards: holds that are kept under deeds, fair at each time."""

from holdmodes.bounds import MAX_DEEDS, MAX_HOLDERS
from holdmodes.errors import BadMode, BadYard, Barred, Full, NoAct, NoHold, NoHolder, NoThing, NothingToUndo
from holdmodes.forms import is_number
from holdmodes.holds import around, go_fault, may, tree_error
from holdmodes.modes import is_mode, joined
from holdmodes.rules import rules_error


def need_holder(holder):
    """Raise NoHolder if there is no such holder; any value may be asked for, here and below."""
    if not is_number(holder, 0, MAX_HOLDERS - 1):
        raise NoHolder(holder)


def need_thing(tree, thing):
    """Raise NoThing if there is no such thing."""
    if not is_number(thing, 0, len(tree) - 1):
        raise NoThing(thing)


def need_act(rules, act):
    """Raise NoAct if there is no such act."""
    if not is_number(act, 0, rules[0] - 1):
        raise NoAct(act)


def with_taken(tree, holds, holder, thing, mode):
    """The holds behind the holder's taking the thing in the mode, and those around it as the mode needs them."""
    modes = {hold[:2]: hold[2] for hold in holds}
    for place in around(tree, thing):
        more = mode if place == thing else ((), mode[1])
        modes[holder, place] = joined(modes.get((holder, place), ((), ())), more)
    return tuple(sorted([(*at, modes[at]) for at in modes]))


def first_bar(rules, tree, holds, holder):
    """The first pair (thing, other) whose mode does not go with the holder's one, None if there is none."""
    # All else went ahead of the holder's deed, so that the holder is one of the two that do not go.
    found = go_fault(rules, tree, holds, 0)
    if found is None:
        return None
    _, thing, one, other = found
    if one == holder:
        return thing, other
    return thing, one


def unlike_things(holds, others):
    """The things on which the holds and the others are not the same, ascending."""
    return tuple(sorted({hold[1] for hold in (*holds, *others) if hold not in holds or hold not in others}))


def holders_many(holds):
    """How many holders have the holds."""
    return len({hold[0] for hold in holds})


class Yard:
    """Holds on the things of a tree, changed by deeds, each of which can be undone."""

    def __init__(self, rules, tree):
        error = rules_error(rules)
        if error is not None:
            raise BadYard("rules", error)
        error = tree_error(tree)
        if error is not None:
            raise BadYard("tree", error)
        self._rules = rules
        self._tree = tree
        # The holds at first and behind each deed in effect. A tuple that no deed changes, so that tried can keep it.
        self._states = ((),)
        self._last = ()

    @property
    def rules(self):
        """The rules by which the modes go."""
        return self._rules

    @property
    def tree(self):
        """The tree of the things."""
        return self._tree

    @property
    def holds(self):
        """The holds, which are fair."""
        return self._states[-1]

    @property
    def version(self):
        """How many deeds are in effect."""
        return len(self._states) - 1

    @property
    def last(self):
        """The things on which a hold came, went or changed last, ascending."""
        return self._last

    def ask(self, holder, thing, act):
        """Have the holder hold what it needs to do the act on the thing; the new version."""
        self._need_room()
        return self._enter(self._with_asked(holder, thing, act), holder)

    def take(self, holder, thing, mode):
        """Have the holder hold the thing in the mode, joined with what it has there; the new version."""
        self._need_room()
        need_holder(holder)
        need_thing(self._tree, thing)
        if not is_mode(self._rules, mode):
            raise BadMode(mode)
        return self._enter(with_taken(self._tree, self.holds, holder, thing, mode), holder)

    def leave(self, holder):
        """Give all holds of the holder back; the new version."""
        self._need_room()
        need_holder(holder)
        left = tuple([hold for hold in self.holds if hold[0] != holder])
        if left == self.holds:
            raise NoHold(holder)
        return self._stand((*self._states, left))

    def undo(self):
        """Take the last deed in effect back; the new version."""
        if self.version == 0:
            raise NothingToUndo()
        return self._stand(self._states[:-1])

    def may(self, holder, thing):
        """The lot of the acts that the holder may do on the thing."""
        need_holder(holder)
        need_thing(self._tree, thing)
        return may(self._tree, self.holds, holder, thing)

    def could(self, holder, thing, act):
        """None if the holder could ask for the act on the thing, otherwise the first (thing, other) in its way."""
        return first_bar(self._rules, self._tree, self._with_asked(holder, thing, act), holder)

    def tried(self, function):
        """What the function returns of the yard, which stands behind it as it did ahead of it."""
        states = self._states
        last = self._last
        try:
            return function(self)
        finally:
            self._states = states
            self._last = last

    def _need_room(self):
        """Raise Full if no deed more can be in effect."""
        if self.version >= MAX_DEEDS:
            raise Full()

    def _with_asked(self, holder, thing, act):
        """The holds as they would stand if the holder asked for the act on the thing."""
        need_holder(holder)
        need_thing(self._tree, thing)
        need_act(self._rules, act)
        return with_taken(self._tree, self.holds, holder, thing, ((act,), (act,)))

    def _enter(self, holds, holder):
        """Do the deed behind which the holds stand, if what the holder has then goes with all others."""
        bar = first_bar(self._rules, self._tree, holds, holder)
        if bar is not None:
            thing, other = bar
            raise Barred(thing, other)
        return self._stand((*self._states, holds))

    def _stand(self, states):
        """Let these states be in effect; the version."""
        self._last = unlike_things(self.holds, states[-1])
        self._states = states
        return self.version

    def __getitem__(self, thing):
        need_thing(self._tree, thing)
        return tuple([(holder, mode) for holder, place, mode in self.holds if place == thing])

    def __iter__(self):
        raise TypeError("a yard is not iterated over")

    def __len__(self):
        return len(self.holds)

    def __eq__(self, other):
        if not isinstance(other, Yard):
            return False
        return self.rules == other.rules and self.tree == other.tree and self.holds == other.holds

    def __str__(self):
        return f"{len(self.holds)} holds of {holders_many(self.holds)} holders, version {self.version}"

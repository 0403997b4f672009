"""What the document says of yards, texts and desks, word by word and without the
package. Whatever is called here tells its outcome: ("returns", result) or
("raises", the name of the error, its fields ..)."""

import re

from holdmodes import errors
from tests.samples import FIELDS, all_modes
from tests.told import told_around, told_fault, told_goes, told_is_mode, told_joined, told_may, told_number


def outcome(function, *told, **named):
    """The outcome of a call of the package."""
    try:
        return "returns", function(*told, **named)
    except (errors.HoldError, errors.NoAct, errors.NoHold, errors.NoHolder, errors.NoThing) as error:
        name = type(error).__name__
        return ("raises", name) + tuple(getattr(error, field) for field in FIELDS[name])


def raises(name, *fields):
    return ("raises", name) + fields


class ToldYard:
    """A yard, which keeps all its holds behind each deed, as dicts {(holder, thing): mode}."""

    def __init__(self, rules, tree):
        self.rules, self.tree = rules, tree
        self.kept = [{}]
        self.last = ()

    @property
    def modes(self):
        return self.kept[-1]

    @property
    def holds(self):
        return tuple((holder, thing, self.modes[holder, thing]) for holder, thing in sorted(self.modes))

    @property
    def version(self):
        return len(self.kept) - 1

    def copy(self):
        other = ToldYard(self.rules, self.tree)
        other.kept, other.last = list(self.kept), self.last
        return other

    def wrong(self, **told):
        """The outcome of the first of the told arguments that is not as it must be, None if all are."""
        if "holder" in told and not told_number(told["holder"], 0, 3):
            return raises("NoHolder", told["holder"])
        if "thing" in told and not told_number(told["thing"], 0, len(self.tree) - 1):
            return raises("NoThing", told["thing"])
        if "act" in told and not told_number(told["act"], 0, self.rules[0] - 1):
            return raises("NoAct", told["act"])
        if "mode" in told and not told_is_mode(self.rules, told["mode"]):
            return raises("BadMode", told["mode"])
        return None

    def grown(self, holder, thing, mode, around):
        """The modes with one joined on the thing and another one on what is around it, and who is in the way."""
        modes = dict(self.modes)
        for place in told_around(self.tree, thing):
            part = mode if place == thing else around
            modes[holder, place] = told_joined(modes[holder, place], part) if (holder, place) in modes else part
        bars = [
            (place, other) for place in told_around(self.tree, thing) for other in range(4)
            if other != holder and (other, place) in modes
            and not told_goes(self.rules, modes[holder, place], modes[other, place])
        ]
        return modes, min(bars, default=None)

    def stand(self, kept):
        """The outcome of a deed or an undo behind which these are kept."""
        before, behind = self.modes, kept[-1]
        places = {at for at in set(before) | set(behind) if before.get(at) != behind.get(at)}
        self.last = tuple(sorted({thing for _, thing in places}))
        self.kept = kept
        return "returns", self.version

    def deed(self, wrong, told):
        """The outcome of a deed that joins modes; told are the arguments of grown."""
        if self.version >= 25:
            return raises("Full")
        if wrong is not None:
            return wrong
        modes, bar = self.grown(*told)
        return raises("Barred", *bar) if bar is not None else self.stand(self.kept + [modes])

    def ask(self, holder, thing, act):
        wrong = self.wrong(holder=holder, thing=thing, act=act)
        return self.deed(wrong, (holder, thing, ((act,), (act,)), ((), (act,))))

    def take(self, holder, thing, mode):
        wrong = self.wrong(holder=holder, thing=thing, mode=mode)
        return self.deed(wrong, (holder, thing, mode, ((), mode[1])) if wrong is None else None)

    def leave(self, holder):
        if self.version >= 25:
            return raises("Full")
        wrong = self.wrong(holder=holder)
        if wrong is not None:
            return wrong
        if not [at for at in self.modes if at[0] == holder]:
            return raises("NoHold", holder)
        return self.stand(self.kept + [{at: mode for at, mode in self.modes.items() if at[0] != holder}])

    def undo(self):
        return self.stand(self.kept[:-1]) if self.version > 0 else raises("NothingToUndo")

    def may(self, holder, thing):
        wrong = self.wrong(holder=holder, thing=thing)
        return wrong or ("returns", told_may(self.tree, self.holds, holder, thing))

    def could(self, holder, thing, act):
        wrong = self.wrong(holder=holder, thing=thing, act=act)
        return wrong or ("returns", self.grown(holder, thing, ((act,), (act,)), ((), (act,)))[1])

    def on(self, thing):
        row = tuple((holder, mode) for holder, place, mode in self.holds if place == thing)
        return self.wrong(thing=thing) or ("returns", row)

    def text(self):
        return f"{len(self.modes)} holds of {len({at[0] for at in self.modes})} holders, version {self.version}"

    def is_fair(self):
        return told_fault(self.rules, self.tree, self.holds) is None


# Texts

def told_lot_text(lot):
    text = ""
    for act in lot:
        text += "012345"[act]
    return text if text else "-"


def told_mode_text(mode):
    own, means = mode
    return told_lot_text(own) + "/" + told_lot_text(means)


def told_rules_text(rules):
    text = "0123456"[rules[0]]
    for i, j in rules[1]:
        text += " " + "012345"[i] + "012345"[j]
    return text


def told_tree_text(tree):
    text = "."
    for parent in tree[1:]:
        text += " " + repr(parent)
    return text


def told_modes_by_text(rules):
    return {told_mode_text(mode): mode for mode in all_modes(rules[0])}


def told_read_mode(rules, value):
    if type(value) is not str:
        return raises("BadText", None)
    modes = told_modes_by_text(rules)
    return ("returns", modes[value]) if value in modes else raises("BadText", 0)


def told_pieces(text):
    return re.findall("[^ ]+", text)


def told_read(value, able):
    """The outcome of reading a text piece by piece: able tells what each piece that can stand next stands for, of what
    the pieces ahead of it stand for."""
    if type(value) is not str:
        return raises("BadText", None)
    row = []
    for number, piece in enumerate(told_pieces(value)):
        if piece not in able(row):
            return raises("BadText", number)
        row.append(able(row)[piece])
    return ("returns", row) if row else raises("BadText", 0)


def told_read_rules(value):
    def able(row):
        if not row:
            return {str(acts): acts for acts in range(1, 7)}
        pairs = [(i, j) for i in range(row[0]) for j in range(i, row[0])]
        return {f"{i}{j}": (i, j) for i, j in pairs if len(row) == 1 or (i, j) > row[-1]}

    told = told_read(value, able)
    return ("returns", (told[1][0], tuple(told[1][1:]))) if told[0] == "returns" else told


def told_read_tree(value):
    def able(row):
        if not row:
            return {".": None}
        return {str(parent): parent for parent in range(len(row))} if len(row) < 12 else {}

    told = told_read(value, able)
    return ("returns", tuple(told[1])) if told[0] == "returns" else told


# A desk

LINES = {
    "ask": "ask ([0-9]{1,2}) ([0-9]{1,2}) ([0-9])",
    "take": "take ([0-9]{1,2}) ([0-9]{1,2}) ([^ ]+)",
    "leave": "leave ([0-9]{1,2})",
    "undo": "undo",
    "may": "may ([0-9]{1,2}) ([0-9]{1,2})",
    "could": "could ([0-9]{1,2}) ([0-9]{1,2}) ([0-9])",
    "on": "on ([0-9]{1,2})",
    "last": "last",
    "fair": "fair",
    "count": "count",
}


class ToldDesk:
    """A desk at a ToldYard."""

    def __init__(self, yard):
        self.yard = yard
        self.said = []

    @property
    def history(self):
        return tuple(self.said[-10:])

    def say(self, line):
        is_line = type(line) is str
        answer = self.answer(" ".join(told_pieces(line))) if is_line else "what"
        self.said.append((line if is_line else None, answer))
        return answer

    def answer(self, line):
        for word, form in LINES.items():
            found = re.fullmatch(form, line)
            if found:
                return self.answer_to(word, list(found.groups()))
        return "what"

    def answer_to(self, word, pieces):
        if word == "take":
            modes = told_modes_by_text(self.yard.rules)
            if pieces[2] not in modes:
                return "what"
            told = self.yard.take(int(pieces[0]), int(pieces[1]), modes[pieces[2]])
        elif word in ("last", "fair", "count"):
            told = "returns", {"last": self.yard.last, "fair": None, "count": self.yard.text()}[word]
        else:
            told = getattr(self.yard, word)(*[int(piece) for piece in pieces])
        return "no " + told[1] if told[0] == "raises" else self.told_text(word, told[1])

    def told_text(self, word, result):
        if word in ("ask", "take", "leave", "undo"):
            return f"ok {result}"
        if word == "may":
            return told_lot_text(result)
        if word == "could":
            return "yes" if result is None else f"{result[0]} {result[1]}"
        if word == "on":
            return " ".join(f"{holder}:{told_mode_text(mode)}" for holder, mode in result) or "nothing"
        if word == "last":
            return " ".join(str(thing) for thing in result) or "nothing"
        # The document says "always"; the told yard is asked whether that is so.
        return result if word == "count" else "yes" if self.yard.is_fair() else "no"

"""Desks, which answer lines about a yard and work on it."""

from holdmodes.errors import BadText, Barred, Full, NoAct, NoHold, NoHolder, NoThing, NothingToUndo
from holdmodes.texts import digits_of, lot_text, mode_text, pieces_of, read_mode

MAX_TOLD = 10
# What stands in a line behind its first piece.
FORMS = {
    "ask": ("number", "number", "act"),
    "take": ("number", "number", "mode"),
    "leave": ("number",),
    "undo": (),
    "may": ("number", "number"),
    "could": ("number", "number", "act"),
    "on": ("number",),
    "last": (),
    "fair": (),
    "count": (),
}
# How many digits these have at most.
DIGITS = {"number": 2, "act": 1}


def ask_answer(yard, holder, thing, act):
    """Of the line "ask 0 3 1"."""
    return f"ok {yard.ask(holder, thing, act)}"


def take_answer(yard, holder, thing, mode):
    """Of the line "take 0 3 0/01"."""
    return f"ok {yard.take(holder, thing, mode)}"


def leave_answer(yard, holder):
    """Of the line "leave 0"."""
    return f"ok {yard.leave(holder)}"


def undo_answer(yard):
    """Of the line "undo"."""
    return f"ok {yard.undo()}"


def may_answer(yard, holder, thing):
    """Of the line "may 0 3"."""
    return lot_text(yard.may(holder, thing))


def could_answer(yard, holder, thing, act):
    """Of the line "could 0 3 1"."""
    bar = yard.could(holder, thing, act)
    return "yes" if bar is None else row_text(bar)


def on_answer(yard, thing):
    """Of the line "on 3"."""
    return row_text([f"{holder}:{mode_text(mode)}" for holder, mode in yard[thing]])


def last_answer(yard):
    """Of the line "last"."""
    return row_text(yard.last)


def fair_answer(yard):
    """Of the line "fair", whatever the yard: what one has granted is fair at each time."""
    return "yes"


def count_answer(yard):
    """Of the line "count"."""
    return str(yard)


ANSWERS = {
    "ask": ask_answer,
    "take": take_answer,
    "leave": leave_answer,
    "undo": undo_answer,
    "may": may_answer,
    "could": could_answer,
    "on": on_answer,
    "last": last_answer,
    "fair": fair_answer,
    "count": count_answer,
}


def row_text(row):
    """The items with single blanks between them, "nothing" if there are none."""
    return " ".join([str(item) for item in row]) or "nothing"


def answered(yard, line):
    """The answer to the line, any value."""
    pieces = pieces_of(line) if isinstance(line, str) else []
    if not pieces or pieces[0] not in FORMS:
        return "what"
    values = read_values(yard.rules, FORMS[pieces[0]], pieces[1:])
    if values is None:
        return "what"
    return answer_or_error(yard, pieces[0], values)


def answer_or_error(yard, word, values):
    """The answer to the line of this word and values, or the error that it meets."""
    answer = ANSWERS[word]
    try:
        return answer(yard, *values)
    except Barred:
        return "no Barred"
    except Full:
        return "no Full"
    except NoAct:
        return "no NoAct"
    except NoHold:
        return "no NoHold"
    except NoHolder:
        return "no NoHolder"
    except NoThing:
        return "no NoThing"
    except NothingToUndo:
        return "no NothingToUndo"


def read_values(rules, kinds, pieces):
    """The values of the pieces, None if they are not of these kinds."""
    if len(pieces) != len(kinds):
        return None
    values = [read_value(rules, kind, piece) for kind, piece in zip(kinds, pieces)]
    return None if None in values else values


def read_value(rules, kind, piece):
    """The value of the piece, None if it is not of this kind."""
    if kind == "mode":
        return mode_or_none(rules, piece)
    digits = digits_of(piece)
    if digits is None or len(digits) > DIGITS[kind]:
        return None
    return int(piece)


def mode_or_none(rules, piece):
    """The mode of the rules whose text is the piece, None if there is none."""
    try:
        return read_mode(rules, piece)
    except BadText:
        return None


class Desk:
    """A desk at a yard: it answers lines and keeps the last ones."""

    def __init__(self, yard):
        self._yard = yard
        self._history = ()

    def say(self, line):
        """The answer to the line, any value."""
        answer = answered(self._yard, line)
        told = line if isinstance(line, str) else None
        self._history = (*self._history, (told, answer))[-MAX_TOLD:]
        return answer

    @property
    def history(self):
        """The last pairs (line, answer), in order; line is None if the value was no string."""
        return self._history

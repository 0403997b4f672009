"""Texts and lines that are like others, but for signs or pieces; and calls of the methods of a yard."""

from tests.samples import Desk, R, T, Yard, drawn_mode

SIGNS = ("0", "1", "2", "3", "5", "6", "9", "-", "/", ".", " ", "\n", "a", "A", "~")
PIECES = ("0", "1", "2", "3", "6", "7", "00", "01", "10", "11", "12", "22", "21", "06", "012", "000", "-", ".", "..",
          "/", "-/-", "0/0", "0/01", "1/0", "a", "ASK", "undo", "\n", "0\n", "-1", "+1", "0x1", "1_0")


def changed_signs(text):
    """Texts that are like this one, but with one sign left out, doubled, exchanged or put in, or two of them turned."""
    found = []
    for at in range(len(text) + 1):
        ahead, behind = text[:at], text[at:]
        found += [ahead + sign + behind for sign in SIGNS]
        if behind:
            found += [ahead + behind[1:], ahead + behind[0] + behind]
            found += [ahead + sign + behind[1:] for sign in SIGNS]
            found += [ahead + behind[1] + behind[0] + behind[2:]] if len(behind) > 1 else []
    return found


def changed_pieces(text):
    """Texts that are like this one, but for one piece: left out, doubled, exchanged, put in, with a nought ahead or in
    great letters; or two of them turned."""
    pieces = text.split(" ")
    rows = []
    for at in range(len(pieces) + 1):
        ahead, behind = pieces[:at], pieces[at:]
        rows += [ahead + [piece] + behind for piece in PIECES]
        if behind:
            rows += [ahead + behind[1:], ahead + behind[:1] + behind]
            rows += [ahead + [piece] + behind[1:] for piece in PIECES + ("0" + behind[0], behind[0].upper())]
            rows += [ahead + [behind[1], behind[0]] + behind[2:]] if len(behind) > 1 else []
    return [" ".join(row) for row in rows]


def more_blanks(draw, text):
    """The text with more blanks between its pieces, ahead and behind."""
    parts = [" " * draw.randint(1, 4) + piece for piece in text.split(" ")]
    return "".join(parts)[draw.randint(0, 1):] + " " * draw.randint(0, 3)


def odd_number(draw, many):
    """What is none of so many numbers, though much like one."""
    return draw.choice((-1, many, many + 1, 99, 10 ** 39, -10 ** 39, True, False, None, "0", "", (), (0,), [0], {0: 0},
                        ((0,), (0,)), Yard(R, T), Desk(Yard(R, T))))


def odd_mode(draw, acts):
    """What is no mode of so many acts, though much like one."""
    own, means = drawn_mode(draw, acts)
    return draw.choice((
        (own, means + (acts,)), ((acts,), (acts,)), ((0,), ()), (own, means, ()), (own,), [own, means],
        (list(own), means), ((own, means),), ((), (0, 0)), ((), (True,)), ((False,), (False,)), ((), (-1,)), "0/0", None,
        0, own, {own: means}, ((), None), ((), ("0",)), Yard(R, T),
    ))


def small_mode(draw, acts):
    """A mode with few acts, which goes with more of the others."""
    act = draw.randrange(acts)
    return draw.choice((((act,), (act,)), ((), (act,)), ((), ()), drawn_mode(draw, acts)))


def drawn_call(draw, rules, tree, odd=12):
    """A call of a method of a yard: its name and arguments, one in so many otherwise than it must be."""
    number = lambda many: odd_number(draw, many) if draw.randrange(odd) == 0 else draw.randrange(many)
    mode = lambda: odd_mode(draw, rules[0]) if draw.randrange(odd) == 0 else small_mode(draw, rules[0])
    name = draw.choice(("ask", "ask", "ask", "ask", "take", "take", "take", "leave", "undo"))
    holder, thing = number(4), number(len(tree))
    told = {"ask": (holder, thing, number(rules[0])), "take": (holder, thing, mode()), "leave": (holder,), "undo": ()}
    return name, told[name]

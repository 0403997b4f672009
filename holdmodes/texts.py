"""Texts of modes, rules and trees, written and read."""

from holdmodes.errors import BadText
from holdmodes.holds import tree_error
from holdmodes.modes import is_mode
from holdmodes.rules import rules_error


def lot_text(lot):
    """The acts of the lot as digits, "-" if there are none."""
    return "".join([str(act) for act in lot]) or "-"


def mode_text(mode):
    """The text of the mode."""
    return f"{lot_text(mode[0])}/{lot_text(mode[1])}"


def rules_text(rules):
    """The text of the rules."""
    acts, beside = rules
    return " ".join([str(acts), *[f"{i}{j}" for i, j in beside]])


def tree_text(tree):
    """The text of the tree."""
    return " ".join([".", *[str(parent) for parent in tree[1:]]])


def pieces_of(text):
    """What stands between the blanks of the text."""
    return [piece for piece in text.split(" ") if piece != ""]


def digits_of(text):
    """The tuple of the digits of the text, None if it has other signs or is empty."""
    if not text.isascii() or not text.isdigit():
        return None
    return tuple([int(sign) for sign in text])


def need_text(value):
    """Raise BadText(None) if value, any value, is no string."""
    if not isinstance(value, str):
        raise BadText(None)


def need_pieces(value):
    """The pieces of value, any value; BadText if it is no string or has none."""
    need_text(value)
    pieces = pieces_of(value)
    if not pieces:
        raise BadText(0)
    return pieces


def read_mode(rules, value):
    """The mode of the rules whose text is value, any value."""
    need_text(value)
    mode = tuple([read_lot(part) for part in value.split("/")])
    if not is_mode(rules, mode):
        raise BadText(0)
    return mode


def read_lot(text):
    """The acts of the text of a lot, in the order in which they stand, None if it is of another form."""
    return () if text == "-" else digits_of(text)


def read_rules(value):
    """The rules whose text is value, any value."""
    pieces = need_pieces(value)
    first = digits_of(pieces[0])
    if first is None or len(first) > 1 or rules_error((first[0], ())) is not None:
        raise BadText(0)
    acts = first[0]
    beside = ()
    for number in range(1, len(pieces)):
        # What is no pair of digits cannot stand in rules either.
        beside = (*beside, digits_of(pieces[number]))
        if rules_error((acts, beside)) is not None:
            raise BadText(number)
    return acts, beside


def read_tree(value):
    """The tree whose text is value, any value."""
    tree = ()
    for number, piece in enumerate(need_pieces(value)):
        tree = (*tree, read_parent(piece))
        if tree_error(tree) is not None:
            raise BadText(number)
    return tree


def read_parent(piece):
    """What the piece tells in a text of a tree; if it is no such piece, itself, which no tree has."""
    if piece == ".":
        return None
    digits = digits_of(piece)
    if digits is None or len(digits) > 2 or len(digits) == 2 and digits[0] == 0:
        return piece
    return int(piece)

"""The texts of rows, menus and beliefs."""

from frankmarks.bounds import MAX_ANSWERS
from frankmarks.errors import BadText
from frankmarks.forms import is_belief_for, is_menu, is_row

_READ_DIGITS = 40
_PIECE_DIGITS = 60
_PIECE = 10 ** 60


def _integer_text(number):
    # Piece by piece, because Python refuses to write out more than some thousand digits at once.
    rest = abs(number)
    pieces = []
    while rest >= _PIECE:
        rest, piece = divmod(rest, _PIECE)
        pieces.append(str(piece).zfill(_PIECE_DIGITS))
    pieces.append(str(rest))
    if number < 0:
        pieces.append("-")
    return "".join(pieces[::-1])


def row_text(row):
    """Return the text of a row."""
    return ",".join([_integer_text(mark) for mark in row])


def menu_text(menu):
    """Return the text of a menu."""
    return " | ".join([row_text(row) for row in menu])


def belief_text(belief):
    """Return the text of a belief."""
    return ":".join([_integer_text(item) for item in belief])


def integer_of(text, most):
    """Return the integer that has this text, of at most so many digits, None if there is none."""
    # The length comes first, because Python refuses to read more than some thousand digits.
    digits = text[1:] if text.startswith("-") else text
    if len(digits) > most or not digits.isdecimal():
        return None
    number = int(text)
    return number if str(number) == text else None


def _integers_of(text, sign):
    # No row and no belief has None among its items.
    return tuple([integer_of(part, _READ_DIGITS) for part in text.split(sign)])


def parse_row(value):
    """Return the row that has value as its text."""
    if isinstance(value, str):
        row = _integers_of(value, ",")
        if is_row(row):
            return row
    raise BadText(value)


def parse_menu(value):
    """Return the menu that has value as its text."""
    if isinstance(value, str):
        menu = tuple([_integers_of(part, ",") for part in value.split(" | ")])
        if is_menu(menu):
            return menu
    raise BadText(value)


def parse_belief(value):
    """Return the belief that has value as its text."""
    if isinstance(value, str):
        belief = _integers_of(value, ":")
        if 2 <= len(belief) <= MAX_ANSWERS and is_belief_for(len(belief), belief):
            return belief
    raise BadText(value)

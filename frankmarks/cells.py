"""Cells: the sets of the beliefs at which words are best."""

from frankmarks.cones import corners_of
from frankmarks.errors import NoCell
from frankmarks.exact import column_sums, difference, primitive, rank
from frankmarks.forms import best, need_word


def corners(menu, word):
    """Return the corners of the word's cell, ascending."""
    need_word(menu, word)
    return corners_of(len(menu[0]), _leads(menu, word))


def border(menu, one, other):
    """Return the corners of the set of the beliefs at which both words are best, ascending."""
    need_word(menu, one)
    need_word(menu, other)
    # Where one is best, other is best too if it is worth no less than one.
    rows = _leads(menu, one) + [difference(menu[other], menu[one])]
    return corners_of(len(menu[0]), rows)


def _leads(menu, word):
    return [difference(menu[word], row) for row in menu if row != menu[word]]


def cell_kind(menu, word):
    """Return "none", "thin" or "wide" for the word's cell."""
    found = corners(menu, word)
    if not found:
        return "none"
    return "wide" if rank(found) == len(menu[0]) else "thin"


def inner(menu, word):
    """Return the belief that is the primitive of the sum of all corners of the word's cell."""
    found = corners(menu, word)
    if not found:
        raise NoCell(word)
    return _middle(found)


def _middle(beliefs):
    return primitive(column_sums(len(beliefs[0]), beliefs))


def parted(menu, one, other):
    """Tell whether some word is best at one of two beliefs and not at the other one."""
    return best(menu, one) != best(menu, other)


def lone_belief(menu, word):
    """Return a belief at which the word is the only best one, None if there is none."""
    found = corners(menu, word)
    if not found:
        return None
    # If there is such a belief, the one in the middle of the cell is one.
    belief = _middle(found)
    return belief if best(menu, belief) == (word,) else None


def share_lone_belief(one, word, other, said):
    """Tell whether at some belief word is the only best one of the menu one, and said that of other."""
    found = corners_of(len(one[0]), _leads(one, word) + _leads(other, said))
    if not found:
        return False
    # As in lone_belief: what both cells have in common has its middle inside of both, or inside of none.
    belief = _middle(found)
    return best(one, belief) == (word,) and best(other, belief) == (said,)

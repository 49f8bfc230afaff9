"""Rows, menus and beliefs, and what words are worth at a belief."""

from frankmarks.bounds import MAX_ANSWERS, MAX_MARK, MAX_WORDS
from frankmarks.errors import BadBelief, NoWord
from frankmarks.exact import common_divisor, fraction, is_integer, primitive


def is_mark(value):
    """Tell whether value is a mark."""
    return is_integer(value) and -MAX_MARK <= value <= MAX_MARK


def is_row(value):
    """Tell whether value is a row."""
    if not isinstance(value, tuple) or not 2 <= len(value) <= MAX_ANSWERS:
        return False
    return all([is_mark(item) for item in value])


def menu_error(value):
    """Return None for a menu, otherwise the place of what is wrong (or None) and its kind."""
    if not isinstance(value, tuple) or not 1 <= len(value) <= MAX_WORDS:
        return (None, "menu")
    for index, row in enumerate(value):
        if not is_row(row):
            return (index, "row")
    for index, row in enumerate(value):
        if len(row) != len(value[0]):
            return (index, "answers")
    return None


def is_menu(value):
    """Tell whether value is a menu."""
    return menu_error(value) is None


def is_belief_for(answers, value):
    """Tell whether value is a belief for this number of answers."""
    if not isinstance(value, tuple) or len(value) != answers:
        return False
    if not all([is_integer(item) and item >= 0 for item in value]):
        return False
    return common_divisor(value) == 1


def is_belief(menu, value):
    """Tell whether value is a belief for the answers of the menu."""
    return is_belief_for(len(menu[0]), value)


def belief_of(counts):
    """Return the belief whose shares are those of the counts."""
    return primitive(counts)


def need_word(menu, word):
    """Raise NoWord if word is not a word of the menu."""
    if not is_integer(word) or not 0 <= word < len(menu):
        raise NoWord(word)


def need_belief(menu, belief):
    """Raise BadBelief if belief is not a belief for the menu."""
    if not is_belief(menu, belief):
        raise BadBelief(belief)


def _total(row, belief):
    return sum([mark * item for mark, item in zip(row, belief)])


def gain(menu, word, belief):
    """Return the average mark of the word at the belief, a fraction."""
    need_word(menu, word)
    need_belief(menu, belief)
    return fraction(_total(menu[word], belief), sum(belief))


def worth(menu, belief):
    """Return the greatest gain of a word at the belief, a fraction."""
    need_belief(menu, belief)
    return fraction(max([_total(row, belief) for row in menu]), sum(belief))


def best(menu, belief):
    """Return the words that have the greatest gain at the belief, ascending."""
    need_belief(menu, belief)
    totals = [_total(row, belief) for row in menu]
    greatest = max(totals)
    return tuple([word for word, total in enumerate(totals) if total == greatest])

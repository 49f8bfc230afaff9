"""Rows, menus and beliefs, and what words are worth at a belief."""

from frankmarks.bounds import MAX_ANSWERS, MAX_MARK, MAX_WORDS
from frankmarks.errors import BadBelief, BadMenu, BadRow, NoWord, Unlike
from frankmarks.exact import common_divisor, dot, fraction, is_index, is_integer, primitive


def is_mark(value):
    """Tell whether value is a mark."""
    return is_integer(value) and -MAX_MARK <= value <= MAX_MARK


def is_row(value):
    """Tell whether value is a row."""
    if not isinstance(value, tuple) or not 2 <= len(value) <= MAX_ANSWERS:
        return False
    return all([is_mark(item) for item in value])


def menu_error(value):
    """Return None for a menu, otherwise the place of what is wrong (or None) and its kind."""
    if not isinstance(value, tuple) or not 1 <= len(value) <= MAX_WORDS:
        return (None, "menu")
    for index, row in enumerate(value):
        if not is_row(row):
            return (index, "row")
    for index, row in enumerate(value):
        if len(row) != len(value[0]):
            return (index, "answers")
    return None


def is_menu(value):
    """Tell whether value is a menu."""
    return menu_error(value) is None


def is_belief_for(answers, value):
    """Tell whether value is a belief for this number of answers."""
    if not isinstance(value, tuple) or len(value) != answers:
        return False
    if not all([is_integer(item) and item >= 0 for item in value]):
        return False
    return common_divisor(value) == 1


def is_belief(menu, value):
    """Tell whether value is a belief for the answers of the menu."""
    return is_belief_for(len(menu[0]), value)


def belief_of(counts):
    """Return the belief whose shares are those of the counts."""
    return primitive(counts)


def is_word(words, value):
    """Tell whether value is one of so many words."""
    return is_index(words, value)


def is_answer(menu, value):
    """Tell whether value is an answer of the menu."""
    return is_index(len(menu[0]), value)


def has_row(menu, value):
    """Tell whether value is a row of the menu: True and False are no marks."""
    return is_row(value) and value in menu


def need_menu(value):
    """Raise BadMenu if value is not a menu."""
    error = menu_error(value)
    if error is not None:
        raise BadMenu(error)


def need_row(menu, row):
    """Raise BadRow if row is not a row with as many marks as those of the menu."""
    if not is_row(row) or len(row) != len(menu[0]):
        raise BadRow(row)


def need_word(menu, word):
    """Raise NoWord if word is not a word of the menu."""
    if not is_word(len(menu), word):
        raise NoWord(word)


def need_belief(menu, belief):
    """Raise BadBelief if belief is not a belief for the menu."""
    if not is_belief(menu, belief):
        raise BadBelief(belief)


def need_same_answers(one, other):
    """Raise Unlike if the rows of two menus have unlike numbers of marks."""
    if len(one[0]) != len(other[0]):
        raise Unlike()


def gain(menu, word, belief):
    """Return the average mark of the word at the belief, a fraction."""
    need_word(menu, word)
    need_belief(menu, belief)
    return fraction(dot(menu[word], belief), sum(belief))


def total_worth(menu, belief):
    """Return the worth at the belief, not yet divided by the sum of the belief."""
    return max([dot(row, belief) for row in menu])


def worth(menu, belief):
    """Return the greatest gain of a word at the belief, a fraction."""
    need_belief(menu, belief)
    return fraction(total_worth(menu, belief), sum(belief))


def best(menu, belief):
    """Return the words that have the greatest gain at the belief, ascending."""
    need_belief(menu, belief)
    totals = [dot(row, belief) for row in menu]
    greatest = max(totals)
    return tuple([word for word, total in enumerate(totals) if total == greatest])

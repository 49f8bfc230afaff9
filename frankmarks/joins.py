"""Menus made of menus."""

from frankmarks.bounds import MAX_ANSWERS, MAX_WORDS
from frankmarks.cells import share_lone_belief
from frankmarks.errors import BadAnswers, BadNumber, TooGreat, TooMany
from frankmarks.exact import is_integer, row_sum
from frankmarks.forms import is_answer, is_mark, need_row, need_same_answers
from frankmarks.papers import useful


def both(one, other):
    """Return the useful rows of all sums of a row of one and a row of other, ascending."""
    need_same_answers(one, other)
    return _joined(_useful_sums(useful(one), useful(other)))


def either(one, other):
    """Return the useful rows of the rows of one and of other together, ascending."""
    need_same_answers(one, other)
    return _joined(useful(one + other))


def _useful_sums(one, other):
    # Of menus with useful rows alone: a sum is the only best one where each of its two rows is.
    sums = []
    for word, row in enumerate(one):
        for said, more in enumerate(other):
            if share_lone_belief(one, word, other, said):
                sums.append(row_sum(row, more))
    return tuple(sorted(sums))


def _joined(rows):
    if len(rows) > MAX_WORDS:
        raise TooMany(MAX_WORDS)
    return _marked(rows)


def _marked(rows):
    # The rows as they are, if all that they have are marks.
    if not all([is_mark(mark) for row in rows for mark in row]):
        raise TooGreat()
    return rows


def times(menu, number):
    """Return the menu with each mark multiplied by the number."""
    if not is_integer(number) or number < 1:
        raise BadNumber(number)
    return _marked(tuple([tuple([mark * number for mark in row]) for row in menu]))


def shifted(menu, row):
    """Return the menu with the marks of the row added to those of each row."""
    need_row(menu, row)
    return _marked(tuple([row_sum(each, row) for each in menu]))


def seen(menu, answers):
    """Return the menu whose rows have for each new answer the mark for this old one."""
    if not _are_answers(menu, answers):
        raise BadAnswers(answers)
    return _marked(tuple([tuple([row[answer] for answer in answers]) for row in menu]))


def _are_answers(menu, value):
    if not isinstance(value, tuple) or not 2 <= len(value) <= MAX_ANSWERS:
        return False
    return all([is_answer(menu, item) for item in value])

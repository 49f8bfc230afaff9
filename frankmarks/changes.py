"""Edits, and what they make of a menu."""

from frankmarks.bounds import MAX_WORDS
from frankmarks.errors import BadMark, LastWord, NoAnswer, TooMany
from frankmarks.forms import is_answer, is_mark, need_row, need_word
from frankmarks.joins import shifted

_LENGTHS = {"put": 2, "drop": 2, "mark": 4, "shift": 2}


def is_edit(value):
    """Tell whether value has the form of an edit, whatever it is about."""
    if not isinstance(value, tuple) or len(value) == 0 or not isinstance(value[0], str):
        return False
    return value[0] in _LENGTHS and len(value) == _LENGTHS[value[0]]


def edited(menu, edit):
    """Return what the edit makes of the menu, or raise the error that keeps it from being done."""
    kind = edit[0]
    if kind == "put":
        return _with_row(menu, edit[1])
    if kind == "drop":
        return _without_word(menu, edit[1])
    if kind == "mark":
        return _with_mark(menu, edit[1], edit[2], edit[3])
    return shifted(menu, edit[1])


def _with_row(menu, row):
    need_row(menu, row)
    if len(menu) >= MAX_WORDS:
        raise TooMany(MAX_WORDS)
    return menu + (row,)


def _without_word(menu, word):
    need_word(menu, word)
    if len(menu) == 1:
        raise LastWord()
    return menu[:word] + menu[word + 1:]


def _with_mark(menu, word, answer, number):
    need_word(menu, word)
    if not is_answer(menu, answer):
        raise NoAnswer(answer)
    if not is_mark(number):
        raise BadMark(number)
    row = menu[word][:answer] + (number,) + menu[word][answer + 1:]
    return menu[:word] + (row,) + menu[word + 1:]

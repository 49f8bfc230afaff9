"""Weights of words, and the weights whose mix is as great as a row."""

from frankmarks.exact import column_sums, difference, is_integer, primitive
from frankmarks.systems import solve


def is_weights(words, value):
    """Tell whether value is weights of some of these words."""
    if not isinstance(value, tuple) or len(value) == 0:
        return False
    if not all([_is_weight(words, item) for item in value]):
        return False
    given = [word for word, _ in value]
    return all([before < after for before, after in zip(given, given[1:])])


def _is_weight(words, item):
    if not isinstance(item, tuple) or len(item) != 2:
        return False
    if not is_integer(item[0]) or item[0] not in words:
        return False
    return is_integer(item[1]) and item[1] >= 1


def others_than(menu, word):
    """Return the words of the menu but this one, ascending."""
    return [other for other in range(len(menu)) if other != word]


def mix(menu, weights):
    """Return the mix of the weights, a row with marks of any size."""
    parts = [[mark * weight for mark in menu[word]] for word, weight in weights]
    return column_sums(len(menu[0]), parts)


def weight_sum(weights):
    """Return the sum of the weights."""
    return sum([weight for _, weight in weights])


def _room(menu, row, weights):
    many = weight_sum(weights)
    return difference(mix(menu, weights), [mark * many for mark in row])


def is_at_least(menu, row, weights):
    """Tell whether the mix has at each answer at least the mark of the row times the sum."""
    return min(_room(menu, row, weights)) >= 0


def is_beyond(menu, row, weights):
    """Tell whether the mix has at each answer more than the mark of the row times the sum."""
    return min(_room(menu, row, weights)) > 0


def weights_at_least(menu, words, row):
    """Return weights of some of these words as is_at_least asks for them; there are some."""
    answers = len(row)
    # The last place counts the weights, so that not all of them are 0.
    columns = [difference(menu[word], row) + (1,) for word in words]
    columns = columns + [_rest(answers, answer) + (0,) for answer in range(answers)]
    return _weights_of(words, columns, [0 for _ in range(answers)] + [1])


def weights_beyond(menu, words, row):
    """Return weights of some of these words as is_beyond asks for them; there are some."""
    answers = len(row)
    columns = [difference(menu[word], row) for word in words]
    columns = columns + [_rest(answers, answer) for answer in range(answers)]
    return _weights_of(words, columns, [1 for _ in range(answers)])


def _rest(answers, answer):
    # What a mix has beyond the target at this answer is taken off again.
    return tuple([-1 if place == answer else 0 for place in range(answers)])


def _weights_of(words, columns, target):
    found = solve(columns, target)
    counts = primitive(found[1][:len(words)])
    return tuple([(word, count) for word, count in zip(words, counts) if count > 0])

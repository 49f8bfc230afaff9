"""Exact numbers: integers, common divisors, primitives, fractions and tuples of integers."""

from math import gcd


def is_integer(value):
    """Tell whether value is an integer: True and False are none."""
    return isinstance(value, int) and not isinstance(value, bool)


def is_index(many, value):
    """Tell whether value is the index of one of so many items."""
    return is_integer(value) and 0 <= value < many


def common_divisor(items):
    """Return the greatest common divisor of integers, 0 if all of them are 0."""
    divisor = 0
    for item in items:
        divisor = gcd(divisor, item)
    return divisor


def primitive(items):
    """Return integers that are not all 0, divided by their greatest common divisor."""
    divisor = common_divisor(items)
    return tuple([item // divisor for item in items])


def fraction(top, bottom):
    """Return top / bottom in lowest terms; bottom is from 1 on."""
    divisor = gcd(top, bottom)
    return (top // divisor, bottom // divisor)


def is_fraction(value):
    """Tell whether value is a fraction in lowest terms."""
    if not isinstance(value, tuple) or len(value) != 2:
        return False
    if not is_integer(value[0]) or not is_integer(value[1]):
        return False
    return value[1] >= 1 and gcd(value[0], value[1]) == 1


def is_less(one, other):
    """Tell whether the fraction one is less than the fraction other."""
    return one[0] * other[1] < other[0] * one[1]


def dot(one, other):
    """Return the sum of the products of the items of two tuples, place by place."""
    return sum([item * factor for item, factor in zip(one, other)])


def difference(one, other):
    """Return the items of one less those of other, place by place."""
    return tuple([item - less for item, less in zip(one, other)])


def row_sum(one, other):
    """Return the items of one and those of other added, place by place."""
    return tuple([item + more for item, more in zip(one, other)])


def column_sums(answers, rows):
    """Return the tuple of the sums of the items of all rows, answer by answer."""
    return tuple([sum([row[answer] for row in rows]) for answer in range(answers)])


def rank(rows):
    """Return how many of the rows of integers can be chosen of which none is made of the others."""
    left = [row for row in rows if any(row)]
    count = 0
    while left:
        first = primitive(left[0])
        place = [at for at, item in enumerate(first) if item != 0][0]
        cleared = [_cleared(row, first, place) for row in left[1:]]
        left = [row for row in cleared if any(row)]
        count = count + 1
    return count


def _cleared(row, first, place):
    return tuple([item * first[place] - less * row[place] for item, less in zip(row, first)])

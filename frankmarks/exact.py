"""Exact numbers: integers, common divisors, primitives and fractions."""

from math import gcd


def is_integer(value):
    """Tell whether value is an integer: True and False are none."""
    return isinstance(value, int) and not isinstance(value, bool)


def common_divisor(items):
    """Return the greatest common divisor of integers, 0 if all of them are 0."""
    divisor = 0
    for item in items:
        divisor = gcd(divisor, item)
    return divisor


def primitive(items):
    """Return integers that are not all 0, divided by their greatest common divisor."""
    divisor = common_divisor(items)
    return tuple([item // divisor for item in items])


def fraction(top, bottom):
    """Return top / bottom in lowest terms; bottom is from 1 on."""
    divisor = gcd(top, bottom)
    return (top // divisor, bottom // divisor)

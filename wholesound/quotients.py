"""Fractions, told by tuples of two whole numbers without a common divisor, the second one at least 1."""

from math import gcd

from wholesound.arguments import is_number


def fraction(top, under):
    """The fraction that stands for `top / under`, where `under` is not 0."""
    shared = gcd(top, under) if under > 0 else -gcd(top, under)
    return (top // shared, under // shared)


def is_fraction(value):
    """Whether a value is a fraction."""
    if not isinstance(value, tuple) or len(value) != 2:
        return False
    top, under = value
    return is_number(top) and is_number(under) and under >= 1 and gcd(top, under) == 1


def plus(one, other):
    """The sum of two fractions."""
    return fraction(one[0] * other[1] + other[0] * one[1], one[1] * other[1])


def times(one, other):
    """The product of two fractions."""
    return fraction(one[0] * other[0], one[1] * other[1])


def divided(one, other):
    """The first fraction by the second one, which is not 0."""
    return fraction(one[0] * other[1], one[1] * other[0])


def weighed_up(fractions, numbers):
    """The sum of each fraction times its whole number."""
    total = (0, 1)
    for one, number in zip(fractions, numbers):
        total = plus(total, times(one, (number, 1)))
    return total

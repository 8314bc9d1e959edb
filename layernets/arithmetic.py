"""Reckoning with FRACTIONS, also with those below 0: pairs (top, bottom) of numbers in lowest terms."""

from math import gcd

ZERO = (0, 1)
ONE = (1, 1)


def plus(one, other):
    """The sum of two FRACTIONS."""
    return _lowest(one[0] * other[1] + other[0] * one[1], one[1] * other[1])


def minus(one, other):
    """What one FRACTION is above the other."""
    return _lowest(one[0] * other[1] - other[0] * one[1], one[1] * other[1])


def times(one, other):
    """The product of two FRACTIONS."""
    return _lowest(one[0] * other[0], one[1] * other[1])


def over(one, other):
    """How many times other, a FRACTION above 0, is in one."""
    return _lowest(one[0] * other[1], one[1] * other[0])


def is_less(one, other):
    """Whether one FRACTION is worth less than the other."""
    return one[0] * other[1] < other[0] * one[1]


def lesser(one, other):
    """The FRACTION that is worth less."""
    return one if is_less(one, other) else other


def greater(one, other):
    """The FRACTION that is worth more."""
    return other if is_less(one, other) else one


def _lowest(top, bottom):
    """The FRACTION top / bottom in lowest terms, bottom above 0."""
    common = gcd(top, bottom)
    return (top // common, bottom // common)

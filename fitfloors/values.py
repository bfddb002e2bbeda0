"""Integers, cells and ratios among values of any kind."""

from math import gcd


def is_an_integer(value):
    """Tell whether a value is an int that is no bool."""
    return isinstance(value, int) and not isinstance(value, bool)


def is_between(value, least, most):
    """Tell whether a value is an integer from least to most."""
    return is_an_integer(value) and least <= value <= most


def is_cell(value):
    """Tell whether a value is a pair of integers."""
    return _is_pair_of_integers(value)


def is_ratio(value):
    """Tell whether a value is a pair of integers without a common divisor, the second above 0."""
    return _is_pair_of_integers(value) and value[1] > 0 and gcd(value[0], value[1]) == 1


def ratio_of(numerator, denominator):
    """Give the ratio of an integer to another above 0."""
    common = gcd(numerator, denominator)
    return numerator // common, denominator // common


def _is_pair_of_integers(value):
    return isinstance(value, tuple) and len(value) == 2 and all([is_an_integer(part) for part in value])

"""Integers and cells among values of any kind."""


def is_an_integer(value):
    """Tell whether a value is an int that is no bool."""
    return isinstance(value, int) and not isinstance(value, bool)


def is_between(value, least, most):
    """Tell whether a value is an integer from least to most."""
    return is_an_integer(value) and least <= value <= most


def is_cell(value):
    """Tell whether a value is a pair of integers."""
    return isinstance(value, tuple) and len(value) == 2 and all([is_an_integer(part) for part in value])

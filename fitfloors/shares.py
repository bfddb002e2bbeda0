"""Share sums: placements times ratios above 0 that add up to the wish."""

from math import gcd, lcm

from fitfloors.puzzles import check_puzzle, placements
from fitfloors.simplex import parts_above_0
from fitfloors.sums import adds_up, columns, is_sum_of_placements, wish
from fitfloors.values import is_an_integer


def share_sum(puzzle):
    """Give a share sum, None if there is none."""
    found = parts_above_0(columns(puzzle), wish(puzzle))
    if found is None:
        return None
    known = placements(puzzle)
    numerators, denominator = found
    return tuple([(known[at], _ratio(numerators[at], denominator)) for at in sorted(numerators)])


def shows_share_sum(puzzle, value):
    """Tell whether a value is a share sum, or None where there is none."""
    check_puzzle(puzzle)
    if value is None:
        return share_sum(puzzle) is None
    if not is_sum_of_placements(puzzle, value):
        return False
    if not all([_is_ratio_above_0(ratio) for placement, ratio in value]):
        return False
    times = 1
    for placement, (numerator, denominator) in value:
        times = lcm(times, denominator)
    pairs = [(placement, times // denominator * numerator) for placement, (numerator, denominator) in value]
    return adds_up(puzzle, pairs, times)


def _ratio(numerator, denominator):
    """Give the ratio of two integers above 0."""
    common = gcd(numerator, denominator)
    return numerator // common, denominator // common


def _is_ratio_above_0(value):
    if not isinstance(value, tuple) or len(value) != 2:
        return False
    if not all([is_an_integer(part) and part > 0 for part in value]):
        return False
    return gcd(value[0], value[1]) == 1

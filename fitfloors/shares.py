"""Share sums: placements times ratios above 0 that add up to the wish."""

from math import lcm

from fitfloors.puzzles import check_puzzle, placements
from fitfloors.simplex import parts_above_0, weights_against
from fitfloors.sums import adds_up, columns, is_sum_of_placements, wish
from fitfloors.values import is_ratio, ratio_of


def share_sum(puzzle):
    """Give a share sum, None if there is none."""
    found = parts_above_0(columns(puzzle), wish(puzzle))
    if found is None:
        return None
    known = placements(puzzle)
    numerators, denominator = found
    return tuple([(known[at], ratio_of(numerators[at], denominator)) for at in sorted(numerators)])


def shows_share_sum(puzzle, value):
    """Tell whether a value is a share sum, or None where there is none."""
    check_puzzle(puzzle)
    if value is None:
        return share_sum(puzzle) is None
    if not is_sum_of_placements(puzzle, value):
        return False
    if not all([is_ratio(ratio) and ratio[0] > 0 for placement, ratio in value]):
        return False
    times = 1
    for placement, (numerator, denominator) in value:
        times = lcm(times, denominator)
    pairs = [(placement, times // denominator * numerator) for placement, (numerator, denominator) in value]
    return adds_up(puzzle, pairs, times)


def weights_against_shares(puzzle):
    """Give a tuple of integers, one for each of the rows of numbers, None if there is a share sum.

    By them no placement weighs below 0, and the wish does.
    """
    found = weights_against(columns(puzzle), wish(puzzle))
    return None if found is None else tuple(found)

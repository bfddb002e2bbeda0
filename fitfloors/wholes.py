"""Whole sums: placements times integers that add up to the wish."""

from fitfloors.lattices import echelon, lessened, weights_against
from fitfloors.puzzles import check_puzzle, placements
from fitfloors.sums import adds_up, columns, is_sum_of_placements, wish
from fitfloors.values import is_an_integer, ratio_of


def whole_sum(puzzle):
    """Give a whole sum, None if there is none."""
    wanted = wish(puzzle)
    rows = columns(puzzle)
    width = len(wanted)
    # Each row tells, behind its numbers, how often it has each placement.
    marked = [row + [int(at == other) for other in range(len(rows))] for at, row in enumerate(rows)]
    rest = lessened(echelon(marked, width), wanted + [0 for row in rows], width)
    if any([entry != 0 for entry in rest[:width]]):
        return None
    # What was taken off the wish are the placements of the sum.
    factors = [-entry for entry in rest[width:]]
    return tuple([(placement, factor) for placement, factor in zip(placements(puzzle), factors) if factor != 0])


def shows_whole_sum(puzzle, value):
    """Tell whether a value is a whole sum, or None where there is none."""
    check_puzzle(puzzle)
    if value is None:
        return whole_sum(puzzle) is None
    if not is_sum_of_placements(puzzle, value):
        return False
    if not all([is_an_integer(factor) and factor != 0 for placement, factor in value]):
        return False
    return adds_up(puzzle, value, 1)


def steps_between(puzzle):
    """Give, ascending, the integers above 1 among the least numbers that sums can have in step."""
    steps = echelon(columns(puzzle), len(wish(puzzle)))
    return tuple(sorted([step[place] for place, step in steps.items() if step[place] > 1]))


def weights_against_wholes(puzzle):
    """Give a tuple of ratios, one for each of the rows of numbers, None if there is a whole sum.

    By them each placement weighs an integer, and the wish does not.
    """
    wanted = wish(puzzle)
    found = weights_against(echelon(columns(puzzle), len(wanted)), wanted)
    if found is None:
        return None
    numerators, denominator = found
    return tuple([ratio_of(numerator, denominator) for numerator in numerators])

"""Stripes of colours by which a floor has no laying."""

from fitfloors.errors import BadPuzzle
from fitfloors.puzzles import check_puzzle, floor_cells, placements, signed_rows
from fitfloors.values import is_an_integer, is_between, ratio_of

FEWEST_COLOURS = 2
MOST_COLOURS = 8


def stripes(puzzle, many):
    """Give the pairs (a, b) whose stripes of many colours show that there is no laying, ascending."""
    check_puzzle(puzzle)
    _check_colours(many)
    known = _places_of_kinds(puzzle)
    found = []
    for a in range(many):
        for b in range(many):
            if _sums_that_show(puzzle, known, many, a, b) is not None:
                found.append((a, b))
    return tuple(found)


def fewest_colours(puzzle):
    """Give the least number of colours whose stripes show that there is no laying, None if none do."""
    for many in range(FEWEST_COLOURS, MOST_COLOURS + 1):
        if stripes(puzzle, many):
            return many
    return None


def stripe_paper(puzzle, many, a, b):
    """Give the paper of stripes that show that there is no laying, None if they do not."""
    _check_stripes(puzzle, many, a, b)
    sums = _sums_that_show(puzzle, _places_of_kinds(puzzle), many, a, b)
    if sums is None:
        return None
    of_cells = tuple([ratio_of(_colour(cell, many, a, b), many) for cell in floor_cells(puzzle)])
    of_kinds = tuple([ratio_of(-colour_sum, many) for colour_sum in sums])
    return "whole", of_cells, of_kinds


def coloured(puzzle, many, a, b):
    """Give the rows of the floor with the colour of each cell."""
    _check_stripes(puzzle, many, a, b)
    return signed_rows(puzzle, {cell: str(_colour(cell, many, a, b)) for cell in floor_cells(puzzle)})


def _check_stripes(puzzle, many, a, b):
    check_puzzle(puzzle)
    _check_colours(many)
    if not is_an_integer(a) or not is_an_integer(b):
        raise BadPuzzle("colours")


def _check_colours(many):
    if not is_between(many, FEWEST_COLOURS, MOST_COLOURS):
        raise BadPuzzle("colours")


def _colour(place, many, a, b):
    row, column = place
    return (a * row + b * column) % many


def _all_in_one(cells):
    """Give the sum of the cells' rows and that of their columns."""
    # The colours of cells add up, modulo many, to the colour that this pair
    # has as a place.
    return sum([row for row, column in cells]), sum([column for row, column in cells])


def _places_of_kinds(puzzle):
    """Give, for each kind, the unlike pairs that its placements are in one."""
    known = placements(puzzle)
    kinds = range(len(puzzle[1]))
    return [sorted({_all_in_one(cells) for other, cells in known if other == kind}) for kind in kinds]


def _sums_that_show(puzzle, known, many, a, b):
    """Give, for each kind, what the colours of each of its placements add up to, None if they show nothing."""
    sums = []
    for places in known:
        unlike = sorted({_colour(place, many, a, b) for place in places})
        if len(unlike) > 1:
            return None
        sums.append(unlike[0] if unlike else 0)
    wanted = sum([colour_sum * number for colour_sum, (piece, number) in zip(sums, puzzle[1])])
    if (_colour(_all_in_one(floor_cells(puzzle)), many, a, b) - wanted) % many == 0:
        return None
    return sums

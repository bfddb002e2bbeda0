"""The rows of numbers of a puzzle, and sums of placements that should add up to its wish."""

from fitfloors.puzzles import are_placements, floor_cells, placements


def columns(puzzle):
    """Give, for each placement, the list of what it has in the rows of numbers."""
    cells = floor_cells(puzzle)
    return [_column(placement, cells, len(puzzle[1])) for placement in placements(puzzle)]


def wish(puzzle):
    """Give the list of what the puzzle wants in the rows of numbers."""
    return [1 for cell in floor_cells(puzzle)] + [number for piece, number in puzzle[1]]


def is_sum_of_placements(puzzle, value):
    """Tell whether a value is a tuple of pairs whose first parts are placements, unlike and ascending."""
    if not isinstance(value, tuple):
        return False
    if not all([isinstance(pair, tuple) and len(pair) == 2 for pair in value]):
        return False
    return are_placements(puzzle, [placement for placement, factor in value])


def adds_up(puzzle, pairs, times):
    """Tell whether the placements of pairs, times their integers, are the wish times an integer."""
    column_of = {placement: column for placement, column in zip(placements(puzzle), columns(puzzle))}
    total = [0 for entry in wish(puzzle)]
    for summand, factor in pairs:
        total = [entry + factor * part for entry, part in zip(total, column_of[summand])]
    return total == [times * entry for entry in wish(puzzle)]


def _column(placement, cells, many_kinds):
    kind, covered = placement
    return [int(cell in covered) for cell in cells] + [int(other == kind) for other in range(many_kinds)]

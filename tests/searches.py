"""Answers by going through all that could be, for the tests to compare with."""

import itertools

from fitfloors.pieces import forms


def set_home(cells):
    top = min(row for row, column in cells)
    left = min(column for row, column in cells)
    return tuple(sorted((row - top, column - left) for row, column in cells))


def hang_together(cells):
    """Every way to part the cells into two has neighbours on both sides."""
    for size in range(1, len(cells)):
        for part in itertools.combinations(cells, size):
            rest = [cell for cell in cells if cell not in part]
            if not any(abs(r - s) + abs(c - d) == 1 for r, c in part for s, d in rest):
                return False
    return True


def all_pieces(many):
    """All pieces of many cells, by going through all sets of cells of a square."""
    square = [(row, column) for row in range(many) for column in range(many)]
    chosen = itertools.combinations(square, many)
    return [cells for cells in chosen if set_home(cells) == cells and hang_together(cells)]


def bare_floor(puzzle):
    """The cells of the floor, ascending."""
    return [(r, c) for r, row in enumerate(puzzle[0]) for c, sign in enumerate(row) if sign == "#"]


def placements_by_search(puzzle):
    """All sets of cells of the floor that have a form of a kind's piece."""
    floor, box, is_flipped = puzzle
    cells = bare_floor(puzzle)
    found = []
    for kind, (piece, number) in enumerate(box):
        wanted = forms(piece, is_flipped)
        for chosen in itertools.combinations(cells, len(piece)):
            if set_home(chosen) in wanted:
                found.append((kind, chosen))
    return tuple(found)


def layings_by_search(puzzle):
    """All ascending tuples of placements, of the right number, that cover each cell once."""
    many = sum(number for piece, number in puzzle[1])
    found = []
    for chosen in itertools.combinations(placements_by_search(puzzle), many):
        covered = sorted(cell for kind, cells in chosen for cell in cells)
        numbers = [[kind for kind, cells in chosen].count(kind) for kind in range(len(puzzle[1]))]
        if covered == bare_floor(puzzle) and numbers == [number for piece, number in puzzle[1]]:
            found.append(chosen)
    return found

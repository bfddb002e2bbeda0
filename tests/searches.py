"""Answers by going through all that could be, for the tests to compare with."""

import itertools
import math
from fractions import Fraction

from fitfloors.pieces import forms


def set_home(cells):
    top = min(row for row, column in cells)
    left = min(column for row, column in cells)
    return tuple(sorted((row - top, column - left) for row, column in cells))


def hang_together(cells):
    """Every way to part the cells into two has neighbours on both sides."""
    for size in range(1, len(cells)):
        for part in itertools.combinations(cells, size):
            rest = [cell for cell in cells if cell not in part]
            if not any(abs(r - s) + abs(c - d) == 1 for r, c in part for s, d in rest):
                return False
    return True


def all_pieces(many):
    """All pieces of many cells, by going through all sets of cells of a square."""
    square = [(row, column) for row in range(many) for column in range(many)]
    chosen = itertools.combinations(square, many)
    return [cells for cells in chosen if set_home(cells) == cells and hang_together(cells)]


def bare_floor(puzzle):
    """The cells of the floor, ascending."""
    return [(r, c) for r, row in enumerate(puzzle[0]) for c, sign in enumerate(row) if sign == "#"]


def placements_by_search(puzzle):
    """All sets of cells of the floor that have a form of a kind's piece."""
    floor, box, is_flipped = puzzle
    cells = bare_floor(puzzle)
    found = []
    for kind, (piece, number) in enumerate(box):
        wanted = forms(piece, is_flipped)
        for chosen in itertools.combinations(cells, len(piece)):
            if set_home(chosen) in wanted:
                found.append((kind, chosen))
    return tuple(found)


def layings_by_search(puzzle):
    """All ascending tuples of placements, of the right number, that cover each cell once."""
    many = sum(number for piece, number in puzzle[1])
    found = []
    for chosen in itertools.combinations(placements_by_search(puzzle), many):
        covered = sorted(cell for kind, cells in chosen for cell in cells)
        numbers = [[kind for kind, cells in chosen].count(kind) for kind in range(len(puzzle[1]))]
        if covered == bare_floor(puzzle) and numbers == [number for piece, number in puzzle[1]]:
            found.append(chosen)
    return found


def disjoint_sets(puzzle, parts):
    """All tuples of these placements that cover no cell twice and are not too many of a kind."""
    numbers = [number for piece, number in puzzle[1]]
    found = [()]
    for kind, cells in parts:
        for chosen in list(found):
            covered = {cell for other, others in chosen for cell in others}
            many = [other for other, others in chosen].count(kind)
            if many < numbers[kind] and not covered & set(cells):
                found.append(chosen + ((kind, cells),))
    return found


def states_by_search(puzzle, row):
    """What can be left open behind a row: the covered cells of later rows, and the pieces left."""
    parts = [(kind, cells) for kind, cells in placements_by_search(puzzle) if cells[0][0] <= row]
    found = set()
    for chosen in disjoint_sets(puzzle, parts):
        covered = {cell for kind, cells in chosen for cell in cells}
        if all(cell in covered for cell in bare_floor(puzzle) if cell[0] <= row):
            kinds = [kind for kind, cells in chosen]
            left = tuple(number - kinds.count(kind) for kind, (piece, number) in enumerate(puzzle[1]))
            found.add((tuple(sorted(cell for cell in covered if cell[0] > row)), left))
    return found


# Each way of turning and flipping, as what it makes of (row, column).
TURNINGS = [(1, 0, 0, 1), (0, 1, -1, 0), (-1, 0, 0, -1), (0, -1, 1, 0)]
FLIPPINGS = [(1, 0, 0, -1), (-1, 0, 0, 1), (0, 1, 1, 0), (0, -1, -1, 0)]


def ways_by_search(puzzle):
    """The dicts, one for each way of turning that leads the floor to itself, from cell to cell."""
    cells = bare_floor(puzzle)
    found = []
    for a, b, c, d in TURNINGS + (FLIPPINGS if puzzle[2] else []):
        images = {(r, k): (a * r + b * k, c * r + d * k) for r, k in cells}
        for down in range(-12, 13):
            for right in range(-12, 13):
                moved = {cell: (r + down, k + right) for cell, (r, k) in images.items()}
                if sorted(moved.values()) == cells:
                    found.append(moved)
    return found


def classes_by_search(puzzle, listed):
    """The classes of the listed layings, each a set of those that are led to one another."""
    ways = ways_by_search(puzzle)
    left = set(listed)
    found = []
    while left:
        same = {left.pop()}
        while True:
            led = {tuple(sorted((kind, tuple(sorted(way[cell] for cell in cells))) for kind, cells in laying))
                   for laying in same for way in ways}
            if led <= same:
                break
            same |= led
        left -= same
        found.append(same)
    return found


def rows_of_numbers(puzzle):
    """The rows of numbers, each with what every placement has there, and the wish there."""
    known = placements_by_search(puzzle)
    found = [([int(cell in cells) for kind, cells in known], 1) for cell in bare_floor(puzzle)]
    for at, (piece, number) in enumerate(puzzle[1]):
        found.append(([int(kind == at) for kind, cells in known], number))
    return found


def echelon_by_fractions(rows):
    """The rows without those that are sums of others, reduced, and the places of their first 1."""
    rows = [[Fraction(entry) for entry in row] for row in rows]
    kept = []
    firsts = []
    for place in range(len(rows[0]) if rows else 0):
        best = next((row for row in rows if row[place]), None)
        if best is None:
            continue
        rows.remove(best)
        best = [entry / best[place] for entry in best]
        rows = [[x - row[place] * y for x, y in zip(row, best)] for row in rows]
        kept = [[x - row[place] * y for x, y in zip(row, best)] for row in kept] + [best]
        firsts.append(place)
    return kept, firsts


def rank(rows):
    return len(echelon_by_fractions(rows)[1])


def determinant(rows):
    """The determinant, by its first row."""
    if not rows:
        return 1
    total = 0
    for at, entry in enumerate(rows[0]):
        if entry:
            total += (-1) ** at * entry * determinant([row[:at] + row[at + 1:] for row in rows[1:]])
    return total


def common_minor(rows):
    """The greatest common divisor of the determinants of as many columns as there are rows."""
    found = 0
    for chosen in itertools.combinations(range(len(rows[0])), len(rows)):
        found = math.gcd(found, determinant([[row[at] for at in chosen] for row in rows]))
    return found


def independent_rows(rows):
    """The indices of the rows that are not sums, with ratios, of those before."""
    found = []
    for at in range(len(rows)):
        if rank([rows[other] for other in found] + [rows[at]]) > len(found):
            found.append(at)
    return found


def steps_by_minors(puzzle):
    """The least numbers above 0 that sums can have at a place with 0 at all places before.

    At places that are independent of those before, the product of the first of
    them is the greatest common divisor of the determinants of these rows.
    """
    rows = [row for row, wanted in rows_of_numbers(puzzle)]
    found = []
    before = 1
    chosen = independent_rows(rows)
    for many in range(1, len(chosen) + 1):
        now = common_minor([rows[at] for at in chosen[:many]])
        found.append(now // before)
        before = now
    return found


def has_whole_sum(puzzle):
    """Whether there is a whole sum, as the wish changes neither the rank nor the determinants' divisor."""
    plain = [row for row, wanted in rows_of_numbers(puzzle)]
    wide = [row + [wanted] for row, wanted in rows_of_numbers(puzzle)]
    chosen = independent_rows(plain)
    if rank(wide) > len(chosen):
        return False
    return common_minor([wide[at] for at in chosen]) == common_minor([plain[at] for at in chosen])


def has_share_sum(puzzle):
    """Whether there is a share sum, by trying all sets of as many placements as the rank allows."""
    rows = rows_of_numbers(puzzle)
    many = rank([row for row, wanted in rows])
    for chosen in itertools.combinations(range(len(rows[0][0])), many):
        kept, firsts = echelon_by_fractions([[row[at] for at in chosen] + [wanted] for row, wanted in rows])
        # Just one way to add up to the wish, with no number below 0.
        if firsts == list(range(many)) and all(row[-1] >= 0 for row in kept):
            return True
    return False


def total_of(puzzle, pairs):
    """What placements, times their numbers, have in the rows of numbers, less the wish."""
    known = placements_by_search(puzzle)
    factors = [dict(pairs).get(placement, 0) for placement in known]
    return [sum(x * y for x, y in zip(row, factors)) - wanted for row, wanted in rows_of_numbers(puzzle)]


def count_with_ones(puzzle):
    """How many layings there are, if the last kind is the single cell and all that others leave bare is its."""
    *others, ones = range(len(puzzle[1]))
    known = placements_by_search(puzzle)
    choices = []
    for at in others:
        parts = [set(cells) for kind, cells in known if kind == at]
        choices.append(list(itertools.combinations(parts, puzzle[1][at][1])))
    many = 0
    for chosen in itertools.product(*choices):
        parts = [part for choice in chosen for part in choice]
        covered = set().union(*parts)
        if sum(len(part) for part in parts) == len(covered) == len(bare_floor(puzzle)) - puzzle[1][ones][1]:
            many += 1
    return many

"""Puzzles, the placements of their pieces, and layings."""

from fitfloors.errors import BadCell, BadPuzzle
from fitfloors.pieces import forms, is_piece, least_form, cells_drawn
from fitfloors.values import is_an_integer, is_between, is_cell

MOST_ROWS = 6
LONGEST_ROW = 6
MOST_FLOOR_CELLS = 16
MOST_KINDS = 4
MOST_OF_A_KIND = 8
KIND_LETTERS = "abcd"


def is_puzzle(value):
    """Tell whether a value is a puzzle."""
    return _what_is_wrong(value) is None


def check_puzzle(value):
    """Raise BadPuzzle, with the word for what is wrong first, for a value that is no puzzle."""
    word = _what_is_wrong(value)
    if word is not None:
        raise BadPuzzle(word)


def is_floor(value):
    """Tell whether a value is a floor."""
    if not isinstance(value, tuple) or not 1 <= len(value) <= MOST_ROWS:
        return False
    if not all([_is_floor_row(row) for row in value]):
        return False
    if not all([len(row) == len(value[0]) for row in value]):
        return False
    return 1 <= sum([row.count("#") for row in value]) <= MOST_FLOOR_CELLS


def floor_cells(puzzle):
    """Give the cells of the floor, ascending."""
    check_puzzle(puzzle)
    return cells_drawn(puzzle[0])


def spare(puzzle):
    """Give the number of the floor's cells less that of the cells of all pieces."""
    return len(floor_cells(puzzle)) - sum([len(piece) * number for piece, number in puzzle[1]])


def placements(puzzle):
    """Give all placements, ascending."""
    cells = floor_cells(puzzle)
    found = []
    for kind, (piece, number) in enumerate(puzzle[1]):
        for form in forms(piece, puzzle[2]):
            for covered in _places_of(form, cells):
                found.append((kind, covered))
    return tuple(sorted(found))


def covering(puzzle, cell):
    """Give the placements, ascending, that cover a cell of the floor."""
    check_puzzle(puzzle)
    check_cell(puzzle, cell)
    return tuple([placement for placement in placements(puzzle) if cell in placement[1]])


def check_cell(puzzle, value):
    """Raise BadCell for a value that is no cell of the puzzle's floor."""
    # True and False are equal to integers, so being among the cells is not enough.
    if not is_cell(value) or value not in floor_cells(puzzle):
        raise BadCell()


def is_laying(puzzle, value):
    """Tell whether a value is a laying."""
    check_puzzle(puzzle)
    if not isinstance(value, tuple) or not are_placements(puzzle, value):
        return False
    covered = [cell for kind, cells in value for cell in cells]
    return sorted(covered) == list(floor_cells(puzzle)) and _takes_whole_box(puzzle[1], value)


def check_laying(puzzle, value):
    """Raise BadPuzzle for a value that is no laying, behind the puzzle's own error."""
    if not is_laying(puzzle, value):
        raise BadPuzzle("laying")


def are_placements(puzzle, values):
    """Tell whether any values are placements, unlike and ascending."""
    if not all([is_kind_and_cells(value) for value in values]):
        return False
    known = placements(puzzle)
    return all([value in known for value in values]) and sorted(set(values)) == list(values)


def is_kind_and_cells(value):
    """Tell whether a value is a pair of an integer and a tuple of cells, as placements are."""
    if not isinstance(value, tuple) or len(value) != 2 or not is_an_integer(value[0]):
        return False
    return isinstance(value[1], tuple) and all([is_cell(cell) for cell in value[1]])


def shown(puzzle, laying):
    """Give the rows of the floor with the letter of the kind that lies on each cell."""
    check_laying(puzzle, laying)
    return signed_rows(puzzle, letters_on(laying))


def letters_on(laid):
    """Give the dict from each cell that placements cover to the letter of the kind."""
    return {cell: KIND_LETTERS[kind] for kind, cells in laid for cell in cells}


def signed_rows(puzzle, signs):
    """Give the rows of the floor with the signs that a dict has for cells, - elsewhere."""
    rows = []
    for row, line in enumerate(puzzle[0]):
        rows.append("".join([signs.get((row, column), "-") for column in range(len(line))]))
    return tuple(rows)


def _what_is_wrong(value):
    """Give the word for what is wrong first with a value as a puzzle, None if nothing is."""
    if not isinstance(value, tuple) or len(value) != 3:
        return "form"
    if not is_floor(value[0]):
        return "floor"
    if not _is_box(value[1]):
        return "box"
    if not isinstance(value[2], bool):
        return "flipped"
    return None


def _is_floor_row(value):
    if not isinstance(value, str) or not 1 <= len(value) <= LONGEST_ROW:
        return False
    return all([sign in ("#", "-") for sign in value])


def _is_box(value):
    if not isinstance(value, tuple) or not 1 <= len(value) <= MOST_KINDS:
        return False
    if not all([_is_kind(pair) for pair in value]):
        return False
    # Pieces with a common form have the same least form.
    return len({least_form(piece) for piece, number in value}) == len(value)


def _is_kind(value):
    if not isinstance(value, tuple) or len(value) != 2:
        return False
    return is_piece(value[0]) and is_between(value[1], 1, MOST_OF_A_KIND)


def _places_of(form, cells):
    """Give, ascending, the cells that a form has on a floor of these cells."""
    found = []
    for row, column in cells:
        # A form that lies on the floor has its first cell on one of the floor's.
        down = row - form[0][0]
        right = column - form[0][1]
        covered = tuple([(at + down, along + right) for at, along in form])
        if all([cell in cells for cell in covered]):
            found.append(covered)
    return found


def _takes_whole_box(box, laying):
    """Tell whether as many placements of each kind are in a laying as the box tells."""
    kinds = [kind for kind, cells in laying]
    return [kinds.count(kind) for kind in range(len(box))] == [number for piece, number in box]

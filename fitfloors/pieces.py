"""Pieces, their forms by turning and flipping, and how they are drawn."""

from fitfloors.errors import BadPiece
from fitfloors.turnings import all_turnings, flipped_cells, set_home, turned_cells
from fitfloors.values import is_between, is_cell

MOST_CELLS = 5


def is_piece(value):
    """Tell whether a value is a piece."""
    if not isinstance(value, tuple) or not 1 <= len(value) <= MOST_CELLS:
        return False
    if not all([is_cell(cell) for cell in value]):
        return False
    return len(set(value)) == len(value) and set_home(value) == value and _hangs_together(value)


def turned(piece):
    """Give the piece turned by a quarter, its north to the east."""
    _check_piece(piece)
    return set_home(turned_cells(piece))


def flipped(piece):
    """Give the piece with left and right exchanged."""
    _check_piece(piece)
    return set_home(flipped_cells(piece))


def forms(piece, is_flipped):
    """Give the unlike forms of a piece by turning, and by flipping if told."""
    _check_piece(piece)
    return tuple(sorted({set_home(images) for images in all_turnings(piece, is_flipped)}))


def least_form(piece):
    """Give the first of a piece's forms by turning and flipping."""
    return forms(piece, True)[0]


def pieces_of(many):
    """Give the least forms of all pieces of so many cells."""
    if not is_between(many, 1, MOST_CELLS):
        raise BadPiece()
    found = [((0, 0),)]
    for _ in range(many - 1):
        found = _one_cell_more(found)
    return tuple(found)


def drawn(piece):
    """Give the rows of a piece, with # for its cells and - for others."""
    _check_piece(piece)
    high = max([row for row, column in piece]) + 1
    wide = max([column for row, column in piece]) + 1
    return tuple([_drawn_row(piece, row, wide) for row in range(high)])


def piece_drawn(rows):
    """Give the piece of which these are the rows, None if there is none."""
    cells = cells_drawn(rows)
    return cells if is_piece(cells) and drawn(cells) == tuple(rows) else None


def cells_drawn(rows):
    """Give the cells at which rows have the sign #, ascending."""
    found = []
    for row, signs in enumerate(rows):
        for column, sign in enumerate(signs):
            if sign == "#":
                found.append((row, column))
    return tuple(found)


def _check_piece(value):
    if not is_piece(value):
        raise BadPiece()


def _cells_beside(cell):
    row, column = cell
    return [(row - 1, column), (row, column - 1), (row, column + 1), (row + 1, column)]


def _hangs_together(cells):
    """Tell whether unlike cells can all be reached from the first by sides."""
    reached = [cells[0]]
    at = 0
    while at < len(reached):
        here = reached[at]
        for cell in _cells_beside(here):
            if cell in cells and cell not in reached:
                reached.append(cell)
        at += 1
    return len(reached) == len(cells)


def _one_cell_more(pieces):
    """Give the least forms, ascending, of the pieces that have one cell more than these."""
    # Every piece has a cell without which the others still hang together, so
    # none is missed by adding a cell beside those of smaller pieces.
    found = set()
    for piece in pieces:
        for cell in piece:
            for added in _cells_beside(cell):
                if added not in piece:
                    found.add(least_form(set_home([*piece, added])))
    return sorted(found)


def _drawn_row(piece, row, wide):
    return "".join(["#" if (row, column) in piece else "-" for column in range(wide)])

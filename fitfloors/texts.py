"""Puzzles as texts."""

from fitfloors.errors import BadText
from fitfloors.pieces import drawn, least_form, piece_drawn
from fitfloors.puzzles import MOST_KINDS, MOST_OF_A_KIND, check_puzzle, is_floor

FLOOR_LINE = "floor"
PIECE_WORD = "piece"
FLIPPED_LINE = "flipped yes"
NOT_FLIPPED_LINE = "flipped no"


def written(puzzle):
    """Give the text of a puzzle."""
    check_puzzle(puzzle)
    floor, box, is_flipped = puzzle
    lines = [FLOOR_LINE, *floor]
    for piece, number in box:
        lines.append(_piece_line(number))
        lines.extend(drawn(piece))
    lines.append(FLIPPED_LINE if is_flipped else NOT_FLIPPED_LINE)
    return "".join([line + "\n" for line in lines])


def read_puzzle(text):
    """Give the puzzle of a text."""
    lines = _lines_of(text)
    last = len(lines) - 1
    starts = [at for at in range(last) if lines[at].startswith(PIECE_WORD)]
    if not starts:
        raise BadText(len(lines))
    floor = tuple(lines[1:starts[0]])
    if not is_floor(floor):
        raise BadText(1)
    box = []
    for start, end in zip(starts, starts[1:] + [last]):
        box.append(_kind_of(lines[start:end], start, box))
    if lines[last] not in (FLIPPED_LINE, NOT_FLIPPED_LINE):
        raise BadText(last)
    return floor, tuple(box), lines[last] == FLIPPED_LINE


def _piece_line(number):
    return f"{PIECE_WORD} {number}"


def _lines_of(text):
    """Give the lines of a text, without the newlines that end them."""
    if not isinstance(text, str) or text == "":
        raise BadText(0)
    *lines, rest = text.split("\n")
    if rest != "":
        raise BadText(len(lines))
    if lines[0] != FLOOR_LINE:
        raise BadText(0)
    return lines


def _kind_of(part, start, box):
    """Give the pair of piece and number of a part that begins at a line, behind those of a box."""
    number = _number_of(part[0])
    if number is None or len(box) == MOST_KINDS:
        raise BadText(start)
    piece = piece_drawn(part[1:])
    if piece is None:
        raise BadText(start + 1)
    # Pieces with a common form have the same least form.
    if least_form(piece) in [least_form(earlier) for earlier, many in box]:
        raise BadText(start)
    return piece, number


def _number_of(line):
    """Give the number that the first line of a part tells, None if it tells none."""
    for number in range(1, MOST_OF_A_KIND + 1):
        if line == _piece_line(number):
            return number
    return None

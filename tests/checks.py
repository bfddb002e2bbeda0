"""Papers and texts checked straight by the words of the document, for the tests to compare with."""

import functools
import math
import re
from fractions import Fraction

from fitfloors.pieces import forms, is_piece
from fitfloors.puzzles import is_puzzle
from searches import bare_floor, placements_by_search, set_home

ALL_PLACEMENTS = functools.lru_cache(maxsize=None)(placements_by_search)


def left_behind(puzzle, lain):
    """The bare cells, the numbers of pieces left and the placements that fit behind some placements."""
    covered = {cell for kind, cells in lain for cell in cells}
    bare = [cell for cell in bare_floor(puzzle) if cell not in covered]
    kinds = [kind for kind, cells in lain]
    numbers = [number - kinds.count(at) for at, (piece, number) in enumerate(puzzle[1])]
    fitting = [(kind, cells) for kind, cells in ALL_PLACEMENTS(puzzle) if numbers[kind] and set(cells) <= set(bare)]
    return bare, numbers, fitting


def is_paper(puzzle, value, lain=(), within=1):
    """Whether a value is a paper for what is left behind some placements, at most 20 cases within one another."""
    bare, numbers, fitting = left_behind(puzzle, lain)
    if not isinstance(value, tuple) or len(value) != 3 or value[0] not in ["whole", "shares", "cases"]:
        return False
    word, first, second = value
    if word == "cases":
        if not is_plain_pair(first) or first not in bare or not isinstance(second, tuple) or within > 20:
            return False
        over = [placement for placement in fitting if first in placement[1]]
        return len(over) == len(second) and all(
            is_paper(puzzle, paper, (*lain, placement), within + 1) for placement, paper in zip(over, second)
        )
    if not isinstance(first, tuple) or not isinstance(second, tuple):
        return False
    if len(first) != len(bare) or len(second) != len(numbers):
        return False
    if word == "shares":
        if not all(type(weight) is int for weight in first + second):
            return False
        parts, all_left = weighed(bare, numbers, fitting, first, second)
        return all(part >= 0 for part in parts) and all_left < 0
    if not all(is_plain_pair(weight) and weight[1] > 0 and math.gcd(*weight) == 1 for weight in first + second):
        return False
    ratios = [[Fraction(*weight) for weight in weights] for weights in (first, second)]
    parts, all_left = weighed(bare, numbers, fitting, *ratios)
    return all(part.denominator == 1 for part in parts) and all_left.denominator > 1


def is_plain_pair(value):
    return isinstance(value, tuple) and [type(part) for part in value] == [int, int]


def weighed(bare, numbers, fitting, of_cells, of_kinds):
    """What each placement that fits weighs, and what is left."""
    weights = dict(zip(bare, of_cells))
    parts = [sum(weights[cell] for cell in cells) + of_kinds[kind] for kind, cells in fitting]
    return parts, sum(of_cells) + sum(weight * number for weight, number in zip(of_kinds, numbers))


def count_ends(paper):
    """How many papers within a paper, itself, too, are no cases or have no placements."""
    waiting, many = [paper], 0
    while waiting:
        word, first, second = waiting.pop()
        if word == "cases" and second:
            waiting.extend(second)
        else:
            many += 1
    return many


def depth(paper):
    """How many cases are within one another."""
    return 0 if paper[0] != "cases" else 1 + max(map(depth, paper[2]), default=0)


OTHERS = [True, False, None, 0, -1, 2, 10**30, "", "cases", b"whole", (), [], {}, (0, 1), (1, 2), (0, 0), ((0, 0),)]


def bents(value):
    """Values that differ from a value in one place, most of them."""
    yield from OTHERS
    if isinstance(value, bool):
        return
    if isinstance(value, int):
        yield from [value + 1, value - 1, -value, 2 * value, value + 10**20, str(value), [value], (value, 1), value + 0.0]
    if isinstance(value, str):
        yield from ["whole", "shares", "cases", value + " ", value.upper(), value.encode(), [value]]
    if isinstance(value, tuple):
        yield from [list(value), value[:-1], value[1:], value + value[-1:], value + (None,), value[::-1], (value,)]
        for at, part in enumerate(value):
            for bent in bents(part):
                yield value[:at] + (bent,) + value[at + 1:]


def bad_line(text):
    """The line that BadText should tell of a text, None if it is the text of a puzzle."""
    if not isinstance(text, str) or not text:
        return 0
    lines = re.findall(r"[^\n]*\n|[^\n]+", text)
    if not lines[-1].endswith("\n"):
        return len(lines) - 1
    if lines[0] != "floor\n":
        return 0
    begins = [at for at, line in enumerate(lines[:-1]) if line[:5] == "piece"]
    if not begins:
        return len(lines)
    if not is_puzzle((stripped(lines[1:begins[0]]), ((((0, 0),), 1),), True)):
        return 1
    seen = []
    for many, (at, end) in enumerate(zip(begins, begins[1:] + [len(lines) - 1])):
        if many >= 4 or not re.fullmatch("piece [1-8]\n", lines[at], re.ASCII):
            return at
        piece = whole_drawing(stripped(lines[at + 1:end]))
        if piece is None:
            return at + 1
        if set(forms(piece, True)) & set(seen):
            return at
        seen += forms(piece, True)
    return None if lines[-1] in ("flipped yes\n", "flipped no\n") else len(lines) - 1


def stripped(lines):
    return tuple(line[:-1] for line in lines)


def whole_drawing(rows):
    """The piece that rows draw, None if they draw none or have more than it."""
    cells = tuple((r, c) for r, row in enumerate(rows) for c, sign in enumerate(row) if sign == "#")
    if not cells or set("".join(rows)) - set("#-") or not is_piece(cells) or set_home(cells) != cells:
        return None
    high, wide = max(r for r, c in cells) + 1, max(c for r, c in cells) + 1
    return cells if [len(row) for row in rows] == [wide] * high else None

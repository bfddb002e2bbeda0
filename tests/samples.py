"""Puzzles, values that are none, and the test case that the tests of puzzles share."""

import random
import unittest

from fitfloors.errors import BadPuzzle
from fitfloors.pieces import forms, pieces_of
from fitfloors.puzzles import floor_cells, is_puzzle, placements, spare

ONE = ((0, 0),)
TWO = ((0, 0), (0, 1))
THREE = ((0, 0), (0, 1), (0, 2))
BENT = ((0, 0), (0, 1), (1, 0))
SQUARE = ((0, 0), (0, 1), (1, 0), (1, 1))
HOOK = ((0, 0), (0, 1), (0, 2), (1, 0))
STEPS = ((0, 0), (0, 1), (1, 1), (1, 2))
BACK_STEPS = ((0, 1), (0, 2), (1, 0), (1, 1))
FIVE = ((0, 0), (0, 1), (0, 2), (0, 3), (0, 4))

FLOOR = ("##", "##")
BOX = ((TWO, 2),)
PLAIN = (FLOOR, BOX, False)
FLAT = ((0, ((0, 0), (0, 1))), (0, ((1, 0), (1, 1))))
UPRIGHT = ((0, ((0, 0), (1, 0))), (0, ((0, 1), (1, 1))))

HOLED = (("###", "#-#", "###"), ((THREE, 1), (TWO, 1), (BENT, 1)), False)
MIXED = (("####", "###-"), ((BENT, 1), (TWO, 1), (ONE, 2)), True)
STAIRS = (("###", "###"), ((STEPS, 1), (ONE, 2)), False)
STAIRS_FLIPPED = (("###", "###"), ((STEPS, 1), (ONE, 2)), True)
TOO_SMALL = (("##", "##"), ((THREE, 1), (ONE, 1)), False)

LARGE = (("-####", "#####", "#####", "-#-#-"), ((FIVE, 1), (HOOK, 1), (BENT, 1), (ONE, 4)), True)

PUZZLES = [PLAIN, HOLED, MIXED, STAIRS, STAIRS_FLIPPED, TOO_SMALL, LARGE, (("#",), ((ONE, 1),), True)]

# Values that are no puzzle, with the word for what is wrong first.
NO_FLOORS = [
    None,
    0,
    True,
    "##",
    ["##", "##"],
    (),
    ("#",) * 7,
    ("-",) * 7,
    ("",),
    ("", ""),
    ("#######",),
    ("#------",),
    ("##", "#"),
    ("#", "##"),
    ("##", "##", ""),
    ("--", "--"),
    ("-",),
    ("######", "######", "#####-"),
    ("######",) * 3,
    ("######",) * 6,
    ("####",) * 4 + ("#---",),
    ("#.", "##"),
    ("# ",),
    ("#a",),
    ("#\n",),
    ("##", None),
    ("##", 1),
    (b"##",),
    (("#", "#"),),
    (["#", "#"],),
    ("##", True),
]
NO_BOXES = [
    None,
    0,
    "a",
    (),
    [(TWO, 2)],
    {TWO: 2},
    (TWO, 2),
    ([TWO, 2],),
    ((TWO,),),
    ((TWO, 2, False),),
    ((TWO, 2), ()),
    ((TWO, 2), None),
    ((2, TWO),),
    ((TWO, 0),),
    ((TWO, -1),),
    ((TWO, 9),),
    ((TWO, 10**20),),
    ((TWO, True),),
    ((TWO, False),),
    ((TWO, 2.0),),
    ((TWO, "2"),),
    ((TWO, None),),
    ((list(TWO), 2),),
    (((), 2),),
    ((((0, 1), (0, 2)), 2),),
    ((((0, 0), (1, 1)), 2),),
    ((((0, 0), (0, True)), 2),),
    ((None, 2),),
    ((ONE, 1), (TWO, 1), (THREE, 1), (BENT, 1), (SQUARE, 1)),
    ((TWO, 1), (TWO, 1)),
    ((TWO, 1), (((0, 0), (1, 0)), 2)),
    ((ONE, 1), (STEPS, 1), (BACK_STEPS, 1)),
    ((BENT, 1), (TWO, 1), (((0, 1), (1, 0), (1, 1)), 3)),
]
NO_FLAGS = [None, 0, 1, "yes", "", (), "True", [True], (True,), 1.0]
NO_TRIPLES = [
    None,
    0,
    3,
    True,
    "abc",
    "",
    (),
    (FLOOR,),
    (FLOOR, BOX),
    (FLOOR, BOX, False, False),
    [FLOOR, BOX, False],
    {FLOOR: 1, BOX: 2, False: 3},
    ((FLOOR, BOX, False),),
    (None, None),
]
WRONG = [(value, "form") for value in NO_TRIPLES]
WRONG += [((value, BOX, False), "floor") for value in NO_FLOORS]
WRONG += [((FLOOR, value, True), "box") for value in NO_BOXES]
WRONG += [((FLOOR, BOX, value), "flipped") for value in NO_FLAGS]
# Several things are wrong at once.
WRONG += [
    ([None, None, None], "form"),
    ((None, None), "form"),
    ((("--",), (), 1, 1), "form"),
    ((None, None, None), "floor"),
    ((("--",), (), 1), "floor"),
    ((("--",), BOX, 1), "floor"),
    ((("--",), (), True), "floor"),
    ((BOX, FLOOR, False), "floor"),
    ((False, BOX, FLOOR), "floor"),
    ((FLOOR, (), 1), "box"),
    ((FLOOR, False, BOX), "box"),
    ((FLOOR, ((TWO, 1), (TWO, 9)), None), "box"),
]

NO_CELLS_OF_PLAIN = [
    (0, 2),
    (2, 0),
    (-1, 0),
    (0, -1),
    (10**20, 0),
    (),
    (0,),
    (0, 0, 0),
    [0, 0],
    (True, 0),
    (0, True),
    (False, False),
    (1, True),
    (0.0, 0),
    ("0", "0"),
    (None, 0),
    ((0, 0),),
    ([], 0),
    None,
    0,
    True,
    "",
    "00",
    "(0, 0)",
    b"00",
    {(0, 0): True},
    {0, 1},
]

NO_LAYINGS_OF_PLAIN = [
    # no tuple of pairs of a kind and cells
    None,
    0,
    True,
    "",
    "aa",
    [],
    list(FLAT),
    [list(FLAT[0]), list(FLAT[1])],
    {FLAT[0]: True, FLAT[1]: True},
    set(FLAT),
    (None, None),
    (0, ((0, 0), (0, 1))),
    ((0,), (0,)),
    (FLAT,),
    (FLAT[0], list(FLAT[1])),
    (FLAT[0], (0, [(1, 0), (1, 1)])),
    (FLAT[0], (0, ([1, 0], [1, 1]))),
    (FLAT[0], (0, ((1, 0), None))),
    (FLAT[0], (0, None)),
    (FLAT[0], (0, 1)),
    (FLAT[0], (0, "ab")),
    (FLAT[0], (0, ())),
    (FLAT[0], (0, ((1, 0), (1, 1)), 0)),
    (FLAT[0], (None, ((1, 0), (1, 1)))),
    (FLAT[0], ("a", ((1, 0), (1, 1)))),
    # equal to a laying, but with values that are no integers
    (FLAT[0], (False, ((1, 0), (1, 1)))),
    ((0, ((0, 0), (False, 1))), FLAT[1]),
    ((0, ((0, 0), (0, True))), FLAT[1]),
    (FLAT[0], (0.0, ((1, 0), (1, 1)))),
    (FLAT[0], (0, ((1.0, 0), (1, 1)))),
    # not ascending
    (FLAT[1], FLAT[0]),
    ((0, ((0, 1), (0, 0))), FLAT[1]),
    # no placements
    (FLAT[0], (1, ((1, 0), (1, 1)))),
    ((-1, ((0, 0), (0, 1))), FLAT[1]),
    (FLAT[0], (0, ((1, 0),)), (0, ((1, 1),))),
    ((0, ((0, 0), (0, 1), (1, 0), (1, 1))),),
    ((0, ((0, 0), (1, 1))), (0, ((0, 1), (1, 0)))),
    (FLAT[0], (0, ((1, 1), (1, 2)))),
    # a cell twice, a bare cell, too few, too many
    (FLAT[0], FLAT[0]),
    (FLAT[0], (0, ((0, 1), (1, 1)))),
    (FLAT[0], UPRIGHT[0]),
    (),
    (FLAT[0],),
    (FLAT[1],),
    (FLAT[0], FLAT[0], FLAT[1]),
    (FLAT[0], UPRIGHT[0], UPRIGHT[1], FLAT[1]),
]


class Case(unittest.TestCase):
    def bad_puzzle(self, word, call, *arguments):
        with self.assertRaises(BadPuzzle, msg=(call, arguments)) as caught:
            call(*arguments)
        self.assertEqual(caught.exception.word, word, (call, arguments))

# Puzzles with just as many layings as are listed, with one more, and with far more.
JUST_2000 = (("###", "###", "###", "###", "##-", "#--"), ((HOOK, 1), (THREE, 1), (TWO, 2), (ONE, 4)), True)
JUST_2001 = (("###-#", "-####", "-#-##", "#####"), ((BENT, 2), (TWO, 2), (ONE, 6)), True)
FOURS = (("####",) * 4, ((TWO, 4), (ONE, 8)), False)
FAR_MORE = (("######", "######", "####--"), ((BENT, 1), (TWO, 3), (THREE, 1), (ONE, 4)), True)

# No laying; a cell has one colour more than the other.
LAME = (("-###", "####", "-###"), ((TWO, 5),), False)
# No piece can lie anywhere.
BARE = (("##-#",), ((THREE, 1),), False)
# There is a whole sum and no share sum.
WHOLE_ONLY = (("-#--", "####"), ((THREE, 1), (TWO, 1)), True)
# There is a share sum and no whole sum.
SHARE_ONLY = (("##",) * 4, ((((0, 0), (1, 0), (2, 0), (3, 0)), 1), (SQUARE, 1)), True)
# There are a whole sum and a share sum, and no laying.
BOTH_ONLY = (("##",) * 3, ((TWO, 1), (((0, 1), (0, 2), (1, 0), (1, 1)), 1)), True)
# The same, with ever longer papers.
PLUS = ((0, 1), (1, 0), (1, 1), (1, 2), (2, 1))
TEE = ((0, 1), (1, 0), (1, 1), (1, 2))
CORNERED = (("---", "###", "###"), ((((0, 0), (1, 0), (1, 1)), 1), (((0, 0), (1, 0), (2, 0)), 1)), False)
NINE = (("###",) * 3, ((THREE, 2), (BENT, 1)), False)
SNAKE = (("######", "######"), ((((0, 0), (1, 0), (1, 1), (2, 1)), 1), (TWO, 4)), False)
CROSSED = (("--#--", "#####", "#####", "#####"), ((PLUS, 1), (ONE, 1), (TWO, 5)), True)
WIDE = (("####",) * 4, ((TWO, 2), (TEE, 1), (((0, 2), (1, 0), (1, 1), (1, 2), (2, 1)), 1), (BENT, 1)), True)
CASES = [BOTH_ONLY, CORNERED, NINE, SNAKE, CROSSED, WIDE]
# There is a whole sum and no share sum, again.
NO_SHARES = (("##-", "-##", "-#-"), ((((0, 0), (1, 0)), 1), (((0, 0), (1, 0), (2, 0)), 1)), False)
# More and fewer cells than the pieces have.
SPARE_ABOVE = (("###", "###"), ((BENT, 1), (ONE, 2)), True)
SPARE_BELOW = (("###", "###"), ((BENT, 1), (TWO, 2), (ONE, 2)), True)
# Pieces that reach over several rows, and rows without cells.
UPRIGHT_BARS = (("-#-#", "-#-#", "####", "##-#"), ((THREE, 2), (ONE, 5)), False)
GAPS = (("----", "-##-", "----", "----", "##-#", "----"), ((TWO, 2), (ONE, 1)), False)


def small_puzzles(seed, many):
    """Many puzzles with few cells and placements, the same for the same seed."""
    chance = random.Random(seed)
    pieces = [piece for size in range(1, 6) for piece in pieces_of(size)]
    found = []
    while len(found) < many:
        high, wide = chance.randint(1, 4), chance.randint(1, 4)
        floor = tuple("".join(chance.choice("####-") for _ in range(wide)) for _ in range(high))
        kinds = chance.sample(pieces[: chance.choice([4, 9, 21])], chance.randint(1, 3))
        box = tuple((chance.choice(forms(piece, True)), chance.randint(1, 3)) for piece in kinds)
        puzzle = (floor, box, chance.random() < 0.5)
        if not is_puzzle(puzzle) or spare(puzzle) and chance.random() < 0.95:
            continue
        if len(floor_cells(puzzle)) <= 9 and 1 <= len(placements(puzzle)) <= 12:
            found.append(puzzle)
    return found


SMALL = small_puzzles(5, 60)

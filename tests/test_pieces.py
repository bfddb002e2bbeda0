"""Point 2: pieces, their turning, flipping and forms, and how they are drawn."""

import itertools
import unittest

from fitfloors.errors import BadPiece
from fitfloors.pieces import drawn, flipped, forms, is_piece, least_form, pieces_of, turned
from searches import all_pieces, hang_together, set_home

ONE = ((0, 0),)
TWO = ((0, 0), (0, 1))
BENT = ((0, 0), (0, 1), (1, 0))
SQUARE = ((0, 0), (0, 1), (1, 0), (1, 1))
HOOK = ((0, 0), (0, 1), (0, 2), (1, 0))
STEPS = ((0, 0), (0, 1), (1, 1), (1, 2))
BAR = ((0, 0), (0, 1), (0, 2), (0, 3), (0, 4))
CROSS = ((0, 1), (1, 0), (1, 1), (1, 2), (2, 1))
ODD = ((0, 1), (0, 2), (1, 0), (1, 1), (2, 1))

NO_PIECES = [
    # no tuples
    None,
    0,
    7,
    True,
    False,
    1.5,
    "",
    "#",
    "##",
    b"#",
    [],
    [(0, 0)],
    [(0, 0), (0, 1)],
    {(0, 0): True},
    {(0, 0)},
    frozenset([(0, 0)]),
    # too few and too many cells
    (),
    ((0, 0), (0, 1), (0, 2), (0, 3), (0, 4), (0, 5)),
    ((0, 0), (0, 1), (0, 2), (1, 0), (1, 1), (1, 2)),
    # not ascending
    ((0, 1), (0, 0)),
    ((0, 0), (1, 0), (0, 1)),
    ((1, 0), (0, 0)),
    # a cell twice
    ((0, 0), (0, 0)),
    ((0, 0), (0, 1), (0, 1)),
    # not hanging together by sides
    ((0, 0), (1, 1)),
    ((0, 1), (1, 0)),
    ((0, 0), (0, 2)),
    ((0, 0), (2, 0)),
    ((0, 0), (0, 1), (1, 2)),
    ((0, 0), (0, 1), (0, 3), (0, 4)),
    ((0, 0), (0, 1), (2, 0), (2, 1)),
    ((0, 0), (0, 2), (1, 1), (2, 0), (2, 2)),
    # a least row or column that is not 0
    ((1, 0),),
    ((0, 1),),
    ((-1, 0),),
    ((0, -1),),
    ((-1, 0), (0, 0)),
    ((0, -1), (0, 0)),
    ((1, 0), (1, 1)),
    ((0, 1), (1, 1)),
    ((0, 1), (0, 2)),
    ((10**20, 10**20),),
    # cells that are no pairs of integers
    ((0, False),),
    ((False, 0),),
    ((0, 0), (0, True)),
    ((0, 0), (True, 0)),
    ((0, 0, 0),),
    ((0, 0, 0), (0, 1, 0)),
    ((0,),),
    ((),),
    ([0, 0],),
    ((0, 0), [0, 1]),
    ((0.0, 0),),
    ((0, 0), (0, 1.0)),
    (("0", "0"),),
    ((None, None),),
    ((0, 0), None),
    ((0, None), (0, 0)),
    (0, 0),
    (0,),
    ("#",),
    ("00",),
    (((0, 0), (0, 1)),),
]


ALL = [piece for many in range(1, 6) for piece in all_pieces(many)]


class IsPieceTest(unittest.TestCase):
    def test_pieces(self):
        for value in [ONE, TWO, ((0, 0), (1, 0)), BENT, SQUARE, HOOK, STEPS, BAR, CROSS, ODD]:
            self.assertIs(is_piece(value), True, value)

    def test_no_pieces(self):
        for value in NO_PIECES:
            self.assertIs(is_piece(value), False, value)

    def test_all_sets_of_cells_of_a_small_square(self):
        square = [(row, column) for row in range(3) for column in range(3)]
        for many in range(1, 10):
            for cells in itertools.combinations(square, many):
                wanted = many <= 5 and set_home(cells) == cells and hang_together(cells)
                self.assertIs(is_piece(cells), wanted, cells)

    def test_all_sequences_of_the_cells_of_a_piece(self):
        for piece in [BENT, HOOK, CROSS]:
            for cells in itertools.permutations(piece):
                self.assertIs(is_piece(cells), cells == piece)

    def test_there_are_as_many_as_is_known(self):
        self.assertEqual([len([p for p in ALL if len(p) == many]) for many in range(1, 6)], [1, 2, 6, 19, 63])
        self.assertTrue(all(is_piece(piece) for piece in ALL))


class NoPieceTest(unittest.TestCase):
    def test_functions_that_take_a_piece(self):
        for value in NO_PIECES:
            for call in [turned, flipped, least_form, drawn]:
                with self.assertRaises(BadPiece, msg=(call, value)):
                    call(value)
            for is_flipped in [True, False]:
                with self.assertRaises(BadPiece, msg=value):
                    forms(value, is_flipped)


class TurnedTest(unittest.TestCase):
    def test_north_comes_to_the_east(self):
        self.assertEqual(turned(HOOK), ((0, 0), (0, 1), (1, 1), (2, 1)))
        self.assertEqual(turned(TWO), ((0, 0), (1, 0)))
        self.assertEqual(turned(((0, 0), (1, 0))), TWO)
        self.assertEqual(turned(BENT), ((0, 0), (0, 1), (1, 1)))
        self.assertEqual(turned(STEPS), ((0, 1), (1, 0), (1, 1), (2, 0)))
        self.assertEqual(turned(ODD), ((0, 1), (1, 0), (1, 1), (1, 2), (2, 2)))
        self.assertEqual(turned(BAR), ((0, 0), (1, 0), (2, 0), (3, 0), (4, 0)))

    def test_pieces_that_turning_leaves(self):
        for piece in [ONE, SQUARE, CROSS]:
            self.assertEqual(turned(piece), piece)

    def test_drawn_rows_become_columns(self):
        for piece in ALL:
            rows = drawn(piece)
            wanted = tuple("".join(column) for column in zip(*reversed(rows)))
            self.assertEqual(drawn(turned(piece)), wanted)
            self.assertTrue(is_piece(turned(piece)))

    def test_four_turnings_lead_home(self):
        for piece in ALL:
            self.assertEqual(turned(turned(turned(turned(piece)))), piece)


class FlippedTest(unittest.TestCase):
    def test_left_and_right_are_exchanged(self):
        self.assertEqual(flipped(HOOK), ((0, 0), (0, 1), (0, 2), (1, 2)))
        self.assertEqual(flipped(STEPS), ((0, 1), (0, 2), (1, 0), (1, 1)))
        self.assertEqual(flipped(BENT), ((0, 0), (0, 1), (1, 1)))
        self.assertEqual(flipped(ODD), ((0, 0), (0, 1), (1, 1), (1, 2), (2, 1)))

    def test_pieces_that_flipping_leaves(self):
        for piece in [ONE, TWO, ((0, 0), (1, 0)), SQUARE, BAR, CROSS]:
            self.assertEqual(flipped(piece), piece)

    def test_drawn_rows_are_reversed(self):
        for piece in ALL:
            self.assertEqual(drawn(flipped(piece)), tuple(row[::-1] for row in drawn(piece)))
            self.assertTrue(is_piece(flipped(piece)))


class FormsTest(unittest.TestCase):
    def test_few_and_many_forms(self):
        counts = [(ONE, 1, 1), (TWO, 2, 2), (BENT, 4, 4), (SQUARE, 1, 1), (HOOK, 4, 8), (STEPS, 2, 4)]
        counts += [(BAR, 2, 2), (CROSS, 1, 1), (ODD, 4, 8)]
        for piece, by_turning, by_both in counts:
            self.assertEqual(len(forms(piece, False)), by_turning, piece)
            self.assertEqual(len(forms(piece, True)), by_both, piece)

    def test_the_forms_of_some_pieces(self):
        self.assertEqual(forms(ONE, True), (ONE,))
        self.assertEqual(forms(TWO, False), (((0, 0), (0, 1)), ((0, 0), (1, 0))))
        steps = (((0, 0), (0, 1), (1, 1), (1, 2)), ((0, 1), (1, 0), (1, 1), (2, 0)))
        back = (((0, 0), (1, 0), (1, 1), (2, 1)), ((0, 1), (0, 2), (1, 0), (1, 1)))
        self.assertEqual(forms(STEPS, False), steps)
        self.assertEqual(forms(back[1], False), back)
        self.assertEqual(forms(STEPS, True), tuple(sorted(steps + back)))

    def test_they_are_what_comes_by_turning_and_flipping(self):
        for piece in ALL:
            one = piece
            by_turning = set()
            by_both = set()
            for _ in range(4):
                by_turning.add(one)
                by_both.add(one)
                by_both.add(flipped(one))
                one = turned(one)
            self.assertEqual(forms(piece, False), tuple(sorted(by_turning)))
            self.assertEqual(forms(piece, True), tuple(sorted(by_both)))

    def test_all_forms_of_a_piece_have_the_same_forms(self):
        for piece in [BENT, HOOK, STEPS, CROSS, ODD]:
            for is_flipped in [False, True]:
                for form in forms(piece, is_flipped):
                    self.assertEqual(forms(form, is_flipped), forms(piece, is_flipped))

    def test_equal_arguments_have_equal_answers(self):
        again = tuple([tuple([row, column]) for row, column in HOOK])
        self.assertEqual(forms(again, True), forms(HOOK, True))
        self.assertEqual(HOOK, ((0, 0), (0, 1), (0, 2), (1, 0)))


class LeastFormTest(unittest.TestCase):
    def test_some_pieces(self):
        self.assertEqual(least_form(HOOK), HOOK)
        self.assertEqual(least_form(ONE), ONE)
        self.assertEqual(least_form(((0, 0), (1, 0))), TWO)
        self.assertEqual(least_form(((0, 1), (1, 0), (1, 1))), BENT)
        self.assertEqual(least_form(((0, 0), (1, 0), (1, 1), (2, 1))), STEPS)

    def test_flipping_counts(self):
        back = ((0, 1), (0, 2), (1, 0), (1, 1))
        self.assertNotIn(STEPS, forms(back, False))
        self.assertEqual(least_form(back), STEPS)

    def test_it_is_the_least_of_all_forms(self):
        for piece in ALL:
            self.assertEqual(least_form(piece), min(forms(piece, True)))


class PiecesOfTest(unittest.TestCase):
    def test_few_cells(self):
        self.assertEqual(pieces_of(1), (ONE,))
        self.assertEqual(pieces_of(2), (TWO,))
        self.assertEqual(pieces_of(3), (((0, 0), (0, 1), (0, 2)), BENT))
        square_and_others = (
            ((0, 0), (0, 1), (0, 2), (0, 3)),
            HOOK,
            ((0, 0), (0, 1), (0, 2), (1, 1)),
            SQUARE,
            STEPS,
        )
        self.assertEqual(pieces_of(4), square_and_others)

    def test_all_numbers_of_cells(self):
        self.assertEqual([len(pieces_of(many)) for many in range(1, 6)], [1, 1, 2, 5, 12])
        for many in range(1, 6):
            wanted = {min(forms(piece, True)) for piece in ALL if len(piece) == many}
            self.assertEqual(pieces_of(many), tuple(sorted(wanted)))

    def test_other_values(self):
        wrong = [0, 6, 7, -1, -5, 10**30, True, False, None, "", "3", 2.0, (), (3,), [3], ((0, 0),)]
        for value in wrong:
            with self.assertRaises(BadPiece, msg=value):
                pieces_of(value)


class DrawnTest(unittest.TestCase):
    def test_some_pieces(self):
        self.assertEqual(drawn(ONE), ("#",))
        self.assertEqual(drawn(HOOK), ("###", "#--"))
        self.assertEqual(drawn(turned(HOOK)), ("##", "-#", "-#"))
        self.assertEqual(drawn(CROSS), ("-#-", "###", "-#-"))
        self.assertEqual(drawn(ODD), ("-##", "##-", "-#-"))
        self.assertEqual(drawn(BAR), ("#####",))
        self.assertEqual(drawn(turned(BAR)), ("#", "#", "#", "#", "#"))

    def test_the_drawing_tells_the_piece(self):
        for piece in ALL:
            rows = drawn(piece)
            self.assertIsInstance(rows, tuple)
            self.assertEqual(len({len(row) for row in rows}), 1)
            self.assertTrue(all(sign in "#-" for row in rows for sign in row))
            cells = [(r, c) for r, row in enumerate(rows) for c, sign in enumerate(row) if sign == "#"]
            self.assertEqual(tuple(cells), piece)
            self.assertEqual(len(rows), max(r for r, c in piece) + 1)
            self.assertEqual(len(rows[0]), max(c for r, c in piece) + 1)


class ExampleTest(unittest.TestCase):
    def test_the_example_of_the_interface(self):
        hook = ((0, 0), (0, 1), (0, 2), (1, 0))
        told = [
            turned(hook),
            flipped(hook),
            len(forms(hook, False)),
            len(forms(hook, True)),
            least_form(hook) == hook,
            drawn(hook),
            [len(pieces_of(many)) for many in [1, 2, 3, 4, 5]],
            is_piece(((0, 0), (1, 1))),
        ]
        wanted = [
            ((0, 0), (0, 1), (1, 1), (2, 1)),
            ((0, 0), (0, 1), (0, 2), (1, 2)),
            4,
            8,
            True,
            ("###", "#--"),
            [1, 1, 2, 5, 12],
            False,
        ]
        self.assertEqual(told, wanted)


if __name__ == "__main__":
    unittest.main()

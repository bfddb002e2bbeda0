"""Point 10: stripes, and the papers of those that show that there is no laying."""

import unittest

from checks import is_paper
from fitfloors.counting import laying_count
from fitfloors.papers import paper_size, shows_never
from fitfloors.puzzles import placements
from fitfloors.stripes import coloured, fewest_colours, stripe_paper, stripes
from samples import (
    BARE,
    BENT,
    BOTH_ONLY,
    CASES,
    FAR_MORE,
    FIVE,
    FLOOR,
    GAPS,
    JUST_2000,
    LAME,
    NO_SHARES,
    ONE,
    PLAIN,
    PUZZLES,
    SHARE_ONLY,
    SMALL,
    SPARE_ABOVE,
    SPARE_BELOW,
    SQUARE,
    TEE,
    THREE,
    TOO_SMALL,
    TWO,
    WHOLE_ONLY,
    WRONG,
    Case,
)

ALL = PUZZLES + CASES + [LAME, BARE, SHARE_ONLY, WHOLE_ONLY, NO_SHARES, SPARE_ABOVE, SPARE_BELOW, TOO_SMALL, GAPS]
NO_NUMBERS_OF_COLOURS = [1, 0, -2, 9, 10**20, True, False, None, "2", 2.0, (2,), [2], {}, b"2"]
NO_INTEGERS = [True, False, None, "1", 1.0, (1,), [1], {1: 1}, b"1", ""]

# Threes, and nine cells of which one is at the wrong place.
BENT_ROWS = (("###-", "###-", "##--", "---#"), ((THREE, 3),), False)
# An odd number of tees, each of which has an odd number of cells of either colour.
TEES = (("####",) * 4, ((TEE, 3), (SQUARE, 1)), True)


def stripes_by_hand(puzzle, many):
    """The pairs that show it, colour by colour."""
    cells = [(r, c) for r, row in enumerate(puzzle[0]) for c, sign in enumerate(row) if sign == "#"]
    found = []
    for a in range(many):
        for b in range(many):
            colour = {(r, c): (a * r + b * c) % many for r, c in cells}
            wanted = 0
            for kind, (piece, number) in enumerate(puzzle[1]):
                sums = {sum(colour[cell] for cell in covered) % many for k, covered in placements(puzzle) if k == kind}
                if len(sums) > 1:
                    break
                wanted += sum(sums) * number
            else:
                if (sum(colour.values()) - wanted) % many:
                    found.append((a, b))
    return tuple(found)


class StripesTest(Case):
    def test_as_by_hand(self):
        found = 0
        for puzzle in ALL + SMALL[:25] + [BENT_ROWS, TEES, JUST_2000]:
            for many in range(2, 9):
                wanted = stripes_by_hand(puzzle, many)
                self.assertEqual(stripes(puzzle, many), wanted, (puzzle, many))
                found += len(wanted)
        self.assertGreater(found, 100)

    def test_some_floors(self):
        self.assertEqual(stripes(LAME, 2), ((1, 1),))
        self.assertEqual(stripes(LAME, 3), ())
        self.assertEqual(stripes(LAME, 4), ((2, 2),))
        self.assertEqual(stripes(BENT_ROWS, 2), ())
        # Each three adds up to 0, and the floor to 10 * a + 10 * b.
        self.assertEqual(stripes(BENT_ROWS, 3), ((0, 1), (0, 2), (1, 0), (1, 1), (2, 0), (2, 2)))
        self.assertEqual(stripes(TEES, 2), ((1, 1),))

    def test_none_where_there_is_a_laying(self):
        for puzzle in ALL + SMALL + [JUST_2000, FAR_MORE]:
            if laying_count(puzzle):
                self.assertEqual([stripes(puzzle, many) for many in range(2, 9)], [()] * 7)

    def test_a_kind_without_placements_counts_as_0(self):
        # The columns 0, 1 and 3 add up to 4, all rows to 0.
        self.assertEqual(stripes(BARE, 2), ())
        self.assertEqual(stripes(BARE, 3), ((0, 1), (0, 2), (1, 1), (1, 2), (2, 1), (2, 2)))
        self.assertEqual(stripes(BARE, 4), ())
        self.assertEqual(stripes((("##",), ((FIVE, 3),), False), 3), ((0, 1), (0, 2), (1, 1), (1, 2), (2, 1), (2, 2)))
        self.assertEqual(stripes((("#",), ((FIVE, 3),), False), 8), ())
        # A kind that has placements, beside one that has none.
        self.assertEqual(stripes((("##",), ((TWO, 2), (FIVE, 1)), False), 2), ((0, 1), (1, 1)))
        self.assertEqual(stripes((("##",), ((FIVE, 1), (TWO, 1)), False), 2), ())

    def test_the_numbers_of_the_kinds_count(self):
        for number, wanted in [(1, ((0, 1), (1, 1))), (2, ()), (3, ((0, 1), (1, 1))), (8, ())]:
            # The colours of columns 0, 1 and 3 add up to 2, those of the two to 1.
            self.assertEqual(stripes((("##-#",), ((TWO, number), (FIVE, 1)), False), 2), wanted, number)

    def test_pieces_that_have_unlike_sums_show_nothing(self):
        self.assertEqual(stripes((("###", "###"), ((ONE, 1), (TWO, 2)), False), 2), ())
        self.assertEqual(stripes((("###", "###"), ((ONE, 8),), False), 7), ())

    def test_the_colour_is_of_row_and_column(self):
        # The square lies at one place only, and one cell is apart: its colour alone tells.
        for floor, (row, column) in [
            (("##----", "##--#-"), (1, 4)),
            (("##-#", "##--"), (0, 3)),
            (("##", "##", "--", "--", "#-"), (4, 0)),
            (("##----", "##----", "------", "-----#"), (3, 5)),
        ]:
            for many in range(2, 9):
                pairs = [(a, b) for a in range(many) for b in range(many)]
                wanted = [(a, b) for a, b in pairs if (a * row + b * column) % many != 0]
                self.assertEqual(stripes((floor, ((SQUARE, 1),), False), many), tuple(wanted))


class FewestColoursTest(Case):
    def test_as_by_hand(self):
        found = set()
        for puzzle in ALL + SMALL[:25] + [BENT_ROWS, TEES, JUST_2000]:
            wanted = next((many for many in range(2, 9) if stripes_by_hand(puzzle, many)), None)
            self.assertEqual(fewest_colours(puzzle), wanted, puzzle)
            found.add(wanted)
        self.assertLessEqual({None, 2, 3, 4}, found)

    def test_some_floors(self):
        self.assertEqual(fewest_colours(LAME), 2)
        self.assertEqual(fewest_colours(BENT_ROWS), 3)
        self.assertIsNone(fewest_colours(PLAIN))
        self.assertIsNone(fewest_colours(BOTH_ONLY))
        # Rows of five with one cell moved.
        self.assertEqual(fewest_colours((("####--", "-----#"), ((FIVE, 1),), False)), 2)
        # Each five adds up to 10 * b, and the floor to 6 * a + 20 * b.
        self.assertEqual(fewest_colours((("#####", "####-", "----#"), ((FIVE, 2),), False)), 4)

    def test_floors_of_one_cell_and_two(self):
        # No piece lies there: the least number of colours is the first that does not divide the sum of columns.
        for row, wanted in [("-#", 2), ("--#", 3), ("---#", 2), ("----#", 3), ("--#-#", 4), ("#", None)]:
            self.assertEqual(fewest_colours(((row,), ((TWO, 1),), False)), wanted)

    def test_many_colours(self):
        bends = ((0, 0), (0, 1), (1, 1), (1, 2), (2, 2))
        fours = ((0, 0), (0, 1), (0, 2), (0, 3))
        for wanted, puzzle in [
            (5, (("---###",), ((BENT, 1),), False)),
            (7, (("##---#", "--##-#"), ((((0, 0), (1, 0)), 1), (SQUARE, 1)), True)),
            (8, (("--#--", "-###-", "-####", "-##--"), ((bends, 2),), True)),
            (8, (("##-#-", "-###-", "-###-", "-#-##"), ((fours, 3),), False)),
        ]:
            self.assertEqual(fewest_colours(puzzle), wanted)
            self.assertNotEqual(stripes_by_hand(puzzle, wanted), ())


class StripePaperTest(Case):
    def test_some_papers(self):
        half, none, third = (1, 2), (0, 1), (1, 3)
        of_cells = (half, none, half, half, none, half, none, half, none, half)
        self.assertEqual(stripe_paper(LAME, 2, 1, 1), ("whole", of_cells, ((-1, 2),)))
        self.assertEqual(stripe_paper(BARE, 3, 0, 1), ("whole", (none, third, none), (none,)))
        self.assertEqual(stripe_paper((("--#-#",), ((TWO, 1),), False), 4, 0, 1), ("whole", (half, none), (none,)))
        self.assertEqual(stripe_paper((("--#-#",), ((TWO, 1),), False), 8, 0, 1), ("whole", ((1, 4), half), (none,)))

    def test_the_kinds_have_minus_their_sums(self):
        puzzle = (("####", "####", "####", "###-"), ((THREE, 3), (BENT, 2)), False)
        for many in range(2, 9):
            for a, b in stripes(puzzle, many):
                of_kinds = stripe_paper(puzzle, many, a, b)[2]
                self.assertTrue(all(-1 < number / many <= 0 for number, many in of_kinds))
        bars = (("#####", "####-", "----#"), ((FIVE, 2),), False)
        # The columns of the five add up to 10.
        self.assertEqual(stripe_paper(bars, 4, 1, 0)[2], ((0, 1),))
        self.assertEqual(stripe_paper(bars, 7, 1, 1)[2], ((-3, 7),))
        self.assertEqual(stripe_paper(bars, 8, 1, 1)[2], ((-1, 4),))
        self.assertEqual(stripe_paper((("-#-#",), ((ONE, 1),), False), 2, 0, 1), ("whole", ((1, 2), (1, 2)), ((-1, 2),)))
        self.assertEqual(stripe_paper((("-#--#-",), ((ONE, 1),), False), 3, 0, 1), ("whole", ((1, 3), (1, 3)), ((-1, 3),)))
        self.assertEqual(stripe_paper((("--#--#",), ((ONE, 1),), False), 3, 0, 1), ("whole", ((2, 3), (2, 3)), ((-2, 3),)))

    def test_each_is_a_paper_or_none(self):
        for puzzle in ALL[::2] + SMALL[25:40] + [BENT_ROWS, TEES]:
            for many in range(2, 9):
                showing = stripes(puzzle, many)
                for a in range(many):
                    for b in range(many):
                        paper = stripe_paper(puzzle, many, a, b)
                        self.assertEqual(paper is not None, (a, b) in showing)
                        if paper is not None:
                            self.assertIs(shows_never(puzzle, paper), True)
                            self.assertTrue(is_paper(puzzle, paper))
                            self.assertEqual(paper_size(puzzle, paper), ("whole", 1))

    def test_any_integers(self):
        for puzzle in [LAME, BENT_ROWS, BARE, PLAIN]:
            for many in range(2, 9):
                for a in range(many):
                    for b in range(many):
                        wanted = stripe_paper(puzzle, many, a, b)
                        for times, more in [(1, -1), (-3, 7), (-(10**30), 10**30)]:
                            given = stripe_paper(puzzle, many, a + times * many, b + more * many)
                            self.assertEqual(given, wanted)

    def test_weights_are_of_plain_integers(self):
        for a, b in stripes(LAME, 6):
            word, of_cells, of_kinds = stripe_paper(LAME, 6, a, b)
            for weight in of_cells + of_kinds:
                self.assertEqual([type(part) for part in weight], [int, int])


class ColouredTest(Case):
    def test_some_floors(self):
        self.assertEqual(coloured(LAME, 2, 1, 1), ("-101", "1010", "-101"))
        self.assertEqual(coloured(LAME, 8, 1, 0), ("-000", "1111", "-222"))
        self.assertEqual(coloured(LAME, 8, 0, 1), ("-123", "0123", "-123"))
        self.assertEqual(coloured(LAME, 3, 0, 0), ("-000", "0000", "-000"))
        self.assertEqual(coloured(LAME, 8, 3, 2), ("-246", "3571", "-024"))
        self.assertEqual(coloured((("######", "-----#"), ((ONE, 1),), True), 7, 5, -1), ("065432", "-----0"))
        self.assertEqual(coloured(GAPS, 4, 1, 0), ("----", "-11-", "----", "----", "00-0", "----"))

    def test_any_integers(self):
        self.assertEqual(coloured(LAME, 3, 10**30, -(10**30)), coloured(LAME, 3, 1, 2))
        self.assertEqual(coloured(LAME, 5, -1, -6), coloured(LAME, 5, 4, 4))

    def test_whether_they_show_something_or_not(self):
        for puzzle in ALL:
            for many, a, b in [(2, 0, 1), (3, 1, 1), (8, 7, 6)]:
                wanted = []
                for r, row in enumerate(puzzle[0]):
                    colours = [(a * r + b * c) % many for c in range(len(row))]
                    wanted.append("".join("-" if sign == "-" else str(colour) for sign, colour in zip(row, colours)))
                self.assertEqual(coloured(puzzle, many, a, b), tuple(wanted))


class ArgumentsTest(Case):
    def test_wrong_puzzles_come_first(self):
        for value, word in WRONG:
            self.bad_puzzle(word, fewest_colours, value)
            for many in [2, 8, 1, 9, None, True]:
                self.bad_puzzle(word, stripes, value, many)
                for a, b in [(0, 1), (None, 1), (0, True)]:
                    self.bad_puzzle(word, stripe_paper, value, many, a, b)
                    self.bad_puzzle(word, coloured, value, many, a, b)

    def test_wrong_numbers_of_colours(self):
        for puzzle in [PLAIN, LAME, BARE]:
            for many in NO_NUMBERS_OF_COLOURS:
                self.bad_puzzle("colours", stripes, puzzle, many)
                for a, b in [(0, 1), (1, 1), (None, None)]:
                    self.bad_puzzle("colours", stripe_paper, puzzle, many, a, b)
                    self.bad_puzzle("colours", coloured, puzzle, many, a, b)

    def test_wrong_stripes(self):
        for puzzle in [PLAIN, LAME, BARE]:
            for value in NO_INTEGERS:
                for call in [stripe_paper, coloured]:
                    self.bad_puzzle("colours", call, puzzle, 2, value, 1)
                    self.bad_puzzle("colours", call, puzzle, 2, 1, value)
                    self.bad_puzzle("colours", call, puzzle, 2, value, value)

    def test_equal_arguments_have_equal_answers(self):
        again = (tuple(["-###", "####", "-###"]), tuple([(tuple([(0, 0), (0, 1)]), 5)]), False)
        for many in range(2, 9):
            self.assertEqual(stripes(again, many), stripes(LAME, many))
            self.assertEqual(stripe_paper(again, many, 1, 1), stripe_paper(LAME, many, 1, 1))
        self.assertEqual(FLOOR, ("##", "##"))


class ExampleTest(unittest.TestCase):
    def test_the_example_of_the_interface(self):
        lame = (("-###", "####", "-###"), ((((0, 0), (0, 1)), 5),), False)
        told = [
            stripes(lame, 2),
            fewest_colours(lame),
            coloured(lame, 2, 1, 1),
            stripe_paper(lame, 2, 1, 1)[2],
            paper_size(lame, stripe_paper(lame, 2, 1, 1)),
            stripe_paper(lame, 2, 0, 1),
        ]
        self.assertEqual(told, [((1, 1),), 2, ("-101", "1010", "-101"), ((-1, 2),), ("whole", 1), None])


if __name__ == "__main__":
    unittest.main()

"""Point 6: layings counted row by row, and what is left open behind each row."""

import unittest

from fitfloors.counting import count_by_rows, laying_count, row_counts
from samples import (
    BARE,
    BENT,
    BOTH_ONLY,
    FAR_MORE,
    FOURS,
    GAPS,
    HOLED,
    JUST_2000,
    JUST_2001,
    LAME,
    LARGE,
    MIXED,
    ONE,
    PLAIN,
    SHARE_ONLY,
    SMALL,
    SPARE_ABOVE,
    SPARE_BELOW,
    STAIRS,
    STAIRS_FLIPPED,
    THREE,
    TOO_SMALL,
    TWO,
    UPRIGHT_BARS,
    WHOLE_ONLY,
    WRONG,
    Case,
)
from searches import count_with_ones, states_by_search

SEARCHED = SMALL + [
    PLAIN,
    HOLED,
    STAIRS,
    STAIRS_FLIPPED,
    TOO_SMALL,
    LAME,
    BARE,
    WHOLE_ONLY,
    SHARE_ONLY,
    BOTH_ONLY,
    SPARE_ABOVE,
    SPARE_BELOW,
    GAPS,
]


class CountByRowsTest(Case):
    def test_it_is_the_count_of_layings(self):
        for puzzle in SEARCHED + [MIXED, LARGE, UPRIGHT_BARS, JUST_2000, JUST_2001, FOURS, FAR_MORE]:
            self.assertEqual(count_by_rows(puzzle), laying_count(puzzle), puzzle)

    def test_known_counts(self):
        self.assertEqual(count_by_rows((("####",) * 4, ((TWO, 8),), False)), 36)
        self.assertEqual(count_by_rows((("######",) * 2, ((TWO, 6),), True)), 13)
        self.assertEqual(count_by_rows(UPRIGHT_BARS), count_with_ones(UPRIGHT_BARS))
        self.assertEqual([count_by_rows(puzzle) for puzzle in [JUST_2000, JUST_2001, FOURS]], [2000, 2001, 2593])
        self.assertEqual([count_by_rows(puzzle) for puzzle in [LAME, BARE, SPARE_ABOVE, SPARE_BELOW]], [0] * 4)
        self.assertEqual(count_by_rows(GAPS), 1)


class RowCountsTest(Case):
    def test_each_row_as_by_search(self):
        for puzzle in SEARCHED:
            wanted = [len(states_by_search(puzzle, row)) for row in range(len(puzzle[0]))]
            self.assertEqual(row_counts(puzzle), tuple(wanted), puzzle)

    def test_pieces_that_reach_over_several_rows(self):
        wanted = [len(states_by_search(UPRIGHT_BARS, row)) for row in range(4)]
        self.assertEqual(row_counts(UPRIGHT_BARS), tuple(wanted))
        bar = (((0, 0), (1, 0), (2, 0), (3, 0), (4, 0)), 1)
        self.assertEqual(row_counts((("#",) * 5, (bar,), False)), (1, 1, 1, 1, 1))
        self.assertEqual(row_counts((("#",) * 6, (bar, (ONE, 1)), False)), (2, 2, 2, 2, 2, 1))

    def test_rows_without_cells(self):
        self.assertEqual(row_counts((("---", "--#"), ((ONE, 1),), False)), (1, 1))
        self.assertEqual(row_counts((("---", "##-", "---", "-##", "---"), ((TWO, 1), (ONE, 2)), False)), (1, 2, 2, 1, 1))
        self.assertEqual(row_counts(GAPS), (1, 1, 1, 1, 1, 1))
        # No one is left for the second row that has cells.
        self.assertEqual(row_counts((("#", "-", "#", "-"), ((ONE, 1),), False)), (1, 1, 0, 0))

    def test_the_same_cells_with_other_pieces_left_are_two(self):
        self.assertEqual(row_counts((("##", "--"), ((ONE, 2), (TWO, 1)), False)), (2, 2))
        self.assertEqual(row_counts((("####",), ((ONE, 4), (TWO, 2)), False)), (3,))

    def test_the_same_pieces_left_with_other_cells_are_two(self):
        self.assertEqual(row_counts((("##", "##"), ((BENT, 1),), False)), (2, 0))
        # With a one beside it, the bent piece covers the same cells of the next row either way.
        self.assertEqual(row_counts((("##", "##"), ((BENT, 1), (ONE, 1)), False)), (3, 1))

    def test_what_can_never_be_laid_whole_counts(self):
        self.assertEqual(row_counts(LAME), (3, 1, 0))
        self.assertEqual(row_counts(BARE), (0,))
        self.assertEqual(row_counts((("###", "###"), ((THREE, 1),), False)), (1, 0))
        self.assertEqual(row_counts((("##", "##"), ((TWO, 3),), False)), (2, 1))

    def test_it_has_a_number_for_each_row(self):
        for puzzle in SEARCHED + [MIXED, LARGE, JUST_2000, FAR_MORE]:
            found = row_counts(puzzle)
            self.assertIsInstance(found, tuple)
            self.assertEqual(len(found), len(puzzle[0]))
            if laying_count(puzzle) > 0:
                self.assertEqual(found[-1], 1)

    def test_large_boxes(self):
        box = ((ONE, 8), (TWO, 8), (BENT, 8), (((0, 0), (0, 1), (0, 2), (1, 0)), 8))
        self.assertEqual(row_counts((("######", "######", "####--"), box, True)), (2310, 628, 53))


class ArgumentsTest(Case):
    def test_wrong_puzzles(self):
        for value, word in WRONG:
            self.bad_puzzle(word, count_by_rows, value)
            self.bad_puzzle(word, row_counts, value)


if __name__ == "__main__":
    unittest.main()

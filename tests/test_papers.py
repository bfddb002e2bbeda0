"""Point 9: what is left, papers that there is no laying, and what they show."""

import random
import unittest

from checks import bents, count_ends, depth, is_paper, left_behind
from fitfloors.counting import layings
from fitfloors.papers import never_paper, paper_size, shows_never, why
from fitfloors.puzzles import spare
from fitfloors.shares import share_sum
from fitfloors.wholes import whole_sum
from samples import (
    BARE,
    BOTH_ONLY,
    CASES,
    CORNERED,
    CROSSED,
    FAR_MORE,
    FIVE,
    FLAT,
    FOURS,
    GAPS,
    HOLED,
    JUST_2000,
    LAME,
    LARGE,
    MIXED,
    NINE,
    NO_SHARES,
    ONE,
    PLAIN,
    PUZZLES,
    SHARE_ONLY,
    SMALL,
    SNAKE,
    SPARE_ABOVE,
    SPARE_BELOW,
    STAIRS,
    STAIRS_FLIPPED,
    THREE,
    TOO_SMALL,
    TWO,
    WHOLE_ONLY,
    WIDE,
    WRONG,
    Case,
    small_puzzles,
)
from searches import has_share_sum, has_whole_sum, layings_by_search

WITH_LAYING = [PLAIN, HOLED, MIXED, STAIRS, STAIRS_FLIPPED, GAPS, LARGE, JUST_2000, FOURS, FAR_MORE]
NO_WHOLE = [LAME, BARE, SHARE_ONLY, SPARE_ABOVE, SPARE_BELOW, TOO_SMALL]
NO_SHARE = [WHOLE_ONLY, NO_SHARES]
WITHOUT = NO_WHOLE + NO_SHARE + CASES

# Three cells in a row and a two: two placements, one cell too many.
THREE_CELLS = (("###",), ((TWO, 1),), False)
# Four cells in a row, a two and a one: one cell too many.
FOUR_CELLS = (("####",), ((ONE, 1), (TWO, 1)), False)
# Cells that only ones cover, and a five that is never used.
APART = (("#-#-#-", "-#-#-#", "#-#---"), ((ONE, 8), (FIVE, 1)), False)
# One cell, and a piece too many for it.
CELL = (("#",), ((ONE, 2),), True)

HALF, NONE, WHOLE = (1, 2), (0, 1), (1, 1)

RIGHT = [
    (THREE_CELLS, ("whole", (HALF, HALF, HALF), (NONE,))),
    (THREE_CELLS, ("whole", (HALF, HALF, HALF), (WHOLE,))),
    (THREE_CELLS, ("whole", (HALF, HALF, HALF), ((-10**30, 1),))),
    (THREE_CELLS, ("whole", ((1, 3), (2, 3), (1, 3)), (NONE,))),
    (THREE_CELLS, ("whole", ((1, 3), (-1, 3), (1, 3)), (NONE,))),
    (THREE_CELLS, ("whole", ((1, 3), (1, 3), (1, 3)), ((-2, 3),))),
    (THREE_CELLS, ("whole", ((1, 3), (1, 3), (1, 3)), ((1, 3),))),
    (THREE_CELLS, ("whole", ((-1, 4), (0, 1), (-1, 4)), ((1, 4),))),
    (THREE_CELLS, ("whole", ((1, 10**30), (-1, 10**30), (1, 10**30)), (NONE,))),
    (THREE_CELLS, ("whole", ((1, 3), (1, 2), (1, 3)), ((1, 6),))),
    (THREE_CELLS, ("shares", (-1, 1, -1), (0,))),
    (THREE_CELLS, ("shares", (-1, -1, -1), (2,))),
    (THREE_CELLS, ("shares", (-1, 2, -1), (-1,))),
    (THREE_CELLS, ("shares", (-(10**40), 10**40, -(10**40)), (0,))),
    (THREE_CELLS, ("cases", (0, 0), (("cases", (0, 2), ()),))),
    (THREE_CELLS, ("cases", (0, 2), (("cases", (0, 0), ()),))),
    (THREE_CELLS, ("cases", (0, 1), (("cases", (0, 2), ()), ("cases", (0, 0), ())))),
    # Behind the two nothing fits: any weight of the bare cell that is no
    # integer, or below 0, will do, and the kind, of which none is left, may
    # weigh anything.
    (THREE_CELLS, ("cases", (0, 0), (("whole", (HALF,), (NONE,)),))),
    (THREE_CELLS, ("cases", (0, 0), (("whole", ((-7, 3),), (HALF,)),))),
    (THREE_CELLS, ("cases", (0, 0), (("shares", (-1,), (0,)),))),
    (THREE_CELLS, ("cases", (0, 0), (("shares", (-1,), (10**20,)),))),
    (THREE_CELLS, ("cases", (0, 1), (("whole", (HALF,), (NONE,)), ("shares", (-1,), (-1,))))),
    # A placement of a kind of which no piece is left is no case, and one that covers no bare cell weighs nothing.
    (FOUR_CELLS, ("cases", (0, 0), (("shares", (-1, 1, -1), (5, 0)), ("shares", (-1, -1), (1, -9))))),
    (FOUR_CELLS, ("cases", (0, 0), (("cases", (0, 1), (("cases", (0, 3), ()),)), ("cases", (0, 3), (("cases", (0, 2), ()),))))),
    # No cell is bare, and a piece is left.
    (CELL, ("cases", (0, 0), (("shares", (), (-1,)),))),
    (CELL, ("cases", (0, 0), (("whole", (), (HALF,)),))),
    (CELL, ("shares", (2,), (-2,))),
    (CELL, ("shares", (1,), (-1,))),
    (CELL, ("whole", (HALF,), (HALF,))),
    (BARE, ("cases", (0, 0), ())),
    (BARE, ("cases", (0, 3), ())),
    (BARE, ("shares", (-1, 0, 0), (0,))),
    (BARE, ("shares", (0, 0, 0), (-1,))),
    (BARE, ("whole", (NONE, NONE, (9, 5)), (NONE,))),
]

WRONG_PAPERS = [
    # no papers at all
    (THREE_CELLS, ()),
    (THREE_CELLS, ("whole",)),
    (THREE_CELLS, "whole"),
    (THREE_CELLS, "abc"),
    (THREE_CELLS, ("whole", (HALF, HALF, HALF))),
    (THREE_CELLS, ("whole", (HALF, HALF, HALF), (NONE,), ())),
    (THREE_CELLS, ["whole", (HALF, HALF, HALF), (NONE,)]),
    (THREE_CELLS, ("whole", [HALF, HALF, HALF], (NONE,))),
    (THREE_CELLS, ("whole", (HALF, HALF, HALF), [NONE])),
    (THREE_CELLS, ("whole", (HALF, HALF, [1, 2]), (NONE,))),
    (THREE_CELLS, ("Whole", (HALF, HALF, HALF), (NONE,))),
    (THREE_CELLS, (b"whole", (HALF, HALF, HALF), (NONE,))),
    (THREE_CELLS, (None, (HALF, HALF, HALF), (NONE,))),
    (THREE_CELLS, (("whole",), (HALF, HALF, HALF), (NONE,))),
    (THREE_CELLS, (["whole"], (HALF, HALF, HALF), (NONE,))),
    # ratios
    (THREE_CELLS, ("whole", ((2, 4), HALF, HALF), (NONE,))),
    (THREE_CELLS, ("whole", (HALF, HALF, (-1, -2)), (NONE,))),
    (THREE_CELLS, ("whole", (HALF, HALF, (1, -2)), (NONE,))),
    (THREE_CELLS, ("whole", (HALF, HALF, (1, 0)), (NONE,))),
    (THREE_CELLS, ("whole", (HALF, HALF, (0, 0)), (NONE,))),
    (THREE_CELLS, ("whole", (HALF, HALF, HALF), ((0, 2),))),
    (THREE_CELLS, ("whole", (HALF, HALF, HALF), ((2, 2),))),
    (THREE_CELLS, ("whole", (HALF, HALF, HALF), (0,))),
    (THREE_CELLS, ("whole", (HALF, HALF, HALF), ((False, 1),))),
    (THREE_CELLS, ("whole", (HALF, HALF, HALF), ((0, True),))),
    (THREE_CELLS, ("whole", ((True, 2), HALF, HALF), (NONE,))),
    (THREE_CELLS, ("whole", ((1.0, 2), HALF, HALF), (NONE,))),
    (THREE_CELLS, ("whole", ((1,), HALF, HALF), (NONE,))),
    (THREE_CELLS, ("whole", ((1, 2, 1), HALF, HALF), (NONE,))),
    (THREE_CELLS, ("whole", ("12", HALF, HALF), (NONE,))),
    (THREE_CELLS, ("whole", (None, HALF, HALF), (NONE,))),
    # too few and too many weights
    (THREE_CELLS, ("whole", (HALF, HALF), (NONE,))),
    (THREE_CELLS, ("whole", (HALF, HALF, HALF, NONE), (NONE,))),
    (THREE_CELLS, ("whole", (HALF, HALF, HALF), ())),
    (THREE_CELLS, ("whole", (HALF, HALF, HALF), (NONE, NONE))),
    (THREE_CELLS, ("whole", (HALF, HALF, HALF, NONE), ())),
    (THREE_CELLS, ("shares", (-1, 1), (0,))),
    (THREE_CELLS, ("shares", (-1, 1, -1, 0), (0,))),
    (THREE_CELLS, ("shares", (-1, 1, -1), ())),
    (THREE_CELLS, ("shares", (-1, 1, -1), (0, 0))),
    # a placement weighs no integer, or what is left weighs one
    (THREE_CELLS, ("whole", (HALF, HALF, HALF), (HALF,))),
    (THREE_CELLS, ("whole", (HALF, HALF, NONE), (NONE,))),
    (THREE_CELLS, ("whole", (NONE, HALF, HALF), (NONE,))),
    (THREE_CELLS, ("whole", (WHOLE, WHOLE, WHOLE), (NONE,))),
    (THREE_CELLS, ("whole", (NONE, NONE, NONE), (NONE,))),
    (THREE_CELLS, ("whole", ((1, 3), (1, 3), (1, 3)), ((2, 3),))),
    (THREE_CELLS, ("whole", (NONE, HALF, NONE), (HALF,))),
    # a placement weighs below 0, or what is left does not
    (THREE_CELLS, ("shares", (-1, 0, -1), (0,))),
    (THREE_CELLS, ("shares", (-1, -1, -1), (1,))),
    (THREE_CELLS, ("shares", (-1, 1, -2), (0,))),
    (THREE_CELLS, ("shares", (-1, 1, 0), (0,))),
    (THREE_CELLS, ("shares", (0, 0, 0), (0,))),
    (THREE_CELLS, ("shares", (-1, 2, -1), (0,))),
    (THREE_CELLS, ("shares", (1, 1, 1), (-2,))),
    # weights of the other kind, and none
    (THREE_CELLS, ("whole", (-1, 1, -1), (0,))),
    (THREE_CELLS, ("shares", ((-1, 1), (1, 1), (-1, 1)), ((0, 1),))),
    (THREE_CELLS, ("shares", (-1, 1, -1), (False,))),
    (THREE_CELLS, ("shares", (-1, True, -1), (0,))),
    (THREE_CELLS, ("shares", (-1.0, 1, -1), (0,))),
    (THREE_CELLS, ("shares", ("-1", 1, -1), (0,))),
    (THREE_CELLS, ("shares", (None, 1, -1), (0,))),
    (THREE_CELLS, ("shares", [-1, 1, -1], (0,))),
    (THREE_CELLS, ("shares", (-1, 1, -1), 0)),
    (THREE_CELLS, ("shares", (-1, 1, -1), None)),
    # no bare cell
    (THREE_CELLS, ("cases", (0, 3), ())),
    (THREE_CELLS, ("cases", (1, 0), ())),
    (THREE_CELLS, ("cases", (-1, 0), ())),
    (THREE_CELLS, ("cases", None, ())),
    (THREE_CELLS, ("cases", 0, ())),
    (THREE_CELLS, ("cases", (), ())),
    (THREE_CELLS, ("cases", [0, 0], (("cases", (0, 2), ()),))),
    (THREE_CELLS, ("cases", (False, 0), (("cases", (0, 2), ()),))),
    (THREE_CELLS, ("cases", (0, False), (("cases", (0, 2), ()),))),
    (THREE_CELLS, ("cases", (0.0, 0), (("cases", (0, 2), ()),))),
    (THREE_CELLS, ("cases", (0, 0), (("cases", (0, 0), ()),))),
    (THREE_CELLS, ("cases", (0, 0), (("cases", (0, 1), ()),))),
    # cases that are missing, foreign, too many, in another sequence
    (THREE_CELLS, ("cases", (0, 0), ())),
    (THREE_CELLS, ("cases", (0, 0), None)),
    (THREE_CELLS, ("cases", (0, 0), [("cases", (0, 2), ())])),
    (THREE_CELLS, ("cases", (0, 0), ("cases", (0, 2), ()))),
    (THREE_CELLS, ("cases", (0, 0), (("cases", (0, 2), ()), ("cases", (0, 2), ())))),
    (THREE_CELLS, ("cases", (0, 0), (None,))),
    (THREE_CELLS, ("cases", (0, 1), (("cases", (0, 2), ()),))),
    (THREE_CELLS, ("cases", (0, 1), (("cases", (0, 0), ()), ("cases", (0, 2), ())))),
    (THREE_CELLS, ("cases", (0, 1), (("cases", (0, 2), ()), ("cases", (0, 0), ()), ("cases", (0, 0), ())))),
    (THREE_CELLS, ("cases", (0, 1), (("cases", (0, 2), ()), ("cases", (0, 2), ())))),
    # papers that are right for the whole puzzle, and not for what is left
    (THREE_CELLS, ("cases", (0, 0), (("whole", (HALF, HALF, HALF), (NONE,)),))),
    (THREE_CELLS, ("cases", (0, 0), (("shares", (-1, 1, -1), (0,)),))),
    # no piece is left, so that its weight does not matter
    (THREE_CELLS, ("cases", (0, 0), (("whole", (NONE,), (HALF,)),))),
    (THREE_CELLS, ("cases", (0, 0), (("shares", (0,), (-1,)),))),
    (FOUR_CELLS, ("cases", (0, 0), (("shares", (-1, 0, -1), (5, 0)), ("shares", (-1, -1), (1, -9))))),
    (FOUR_CELLS, ("cases", (0, 0), (("shares", (-1, 1, -1), (5, 0)), ("shares", (-1, -1), (0, -9))))),
    (BARE, ("cases", (0, 2), ())),
    (BARE, ("cases", (0, 0), (("shares", (-1, 0), (0,)),))),
    (BARE, ("shares", (0, 0, 0), (0,))),
    (CELL, ("cases", (0, 0), (("cases", (0, 0), ()),))),
    (CELL, ("cases", (0, 0), (("shares", (), (0,)),))),
    (CELL, ("cases", (0, 0), (("whole", (), (WHOLE,)),))),
]


class ShowsNeverTest(Case):
    def test_right_papers(self):
        for puzzle, paper in RIGHT:
            self.assertIs(shows_never(puzzle, paper), True, paper)
            self.assertTrue(is_paper(puzzle, paper), paper)

    def test_wrong_papers(self):
        for puzzle, paper in WRONG_PAPERS:
            self.assertIs(shows_never(puzzle, paper), False, paper)
            self.assertFalse(is_paper(puzzle, paper), paper)

    def test_papers_bent_in_one_place(self):
        found = []
        for puzzle, paper in RIGHT:
            for bent in bents(paper):
                wanted = is_paper(puzzle, bent)
                self.assertIs(shows_never(puzzle, bent), wanted, (puzzle, bent))
                found.append(wanted)
        self.assertGreater(found.count(False), 5000)
        self.assertGreater(found.count(True), 50)

    def test_given_papers_bent_in_one_place(self):
        chance = random.Random(9)
        for puzzle in WITHOUT:
            paper = never_paper(puzzle)
            chosen = list(bents(paper))
            for bent in chance.sample(chosen, min(len(chosen), 300)):
                self.assertIs(shows_never(puzzle, bent), is_paper(puzzle, bent), (puzzle, bent))

    def test_weights_of_a_given_paper_pushed_one_by_one(self):
        for puzzle in [LAME, SHARE_ONLY, WHOLE_ONLY, NO_SHARES]:
            word, *weights = never_paper(puzzle)
            for side in (0, 1):
                for at in range(len(weights[side])):
                    for push in [-3, -1, 1, 3]:
                        bent = [list(weights[0]), list(weights[1])]
                        old = bent[side][at]
                        if word == "shares":
                            bent[side][at] = old + push
                        else:
                            # The denominator 7 stands nowhere, so that no placement there weighs an integer.
                            self.assertNotIn(7, [weight[1] for weight in weights[0] + weights[1]])
                            bent[side][at] = (old[0] * 7 + push * old[1], old[1] * 7)
                        value = (word, tuple(bent[0]), tuple(bent[1]))
                        self.assertIs(shows_never(puzzle, value), is_paper(puzzle, value), value)
                        if word == "whole":
                            self.assertIs(shows_never(puzzle, value), False, value)

    def test_cases_of_a_given_paper_taken_away_added_and_exchanged(self):
        for puzzle in CASES:
            word, cell, papers = never_paper(puzzle)
            for at in range(len(papers)):
                for changed in [
                    papers[:at] + papers[at + 1:],
                    papers[:at] + papers[at:at + 1] + papers[at:],
                    papers[:at] + (None,) + papers[at + 1:],
                    papers[:at] + ((word, cell, papers),) + papers[at + 1:],
                ]:
                    self.assertIs(shows_never(puzzle, (word, cell, changed)), False)

    def test_values_of_any_kind(self):
        for puzzle in WITHOUT + WITH_LAYING:
            for value in [None, True, False, 0, 1, "", "never", b"", (), [], {}, set(), FLAT, puzzle, 10**50, 0.5, object()]:
                self.assertIs(shows_never(puzzle, value), False, value)
                self.assertIsNone(paper_size(puzzle, value))

    def test_a_value_that_is_equal_to_everything(self):
        class Same:
            def __eq__(self, other):
                return True

        for puzzle, (word, first, second) in RIGHT:
            self.assertIs(shows_never(puzzle, (Same(), first, second)), False)
            self.assertIs(shows_never(puzzle, (word, Same(), second)), False)
            self.assertIs(shows_never(puzzle, (word, first, Same())), False)

    def test_no_paper_where_there_is_a_laying(self):
        for puzzle in WITH_LAYING:
            for other, paper in RIGHT:
                self.assertIs(shows_never(puzzle, paper), False)
        for weights in [(0, 0, 0, 0), (-1, 1, 1, -1), (-1, -1, -1, -1)]:
            for kind in [-2, -1, 0, 1, 2]:
                self.assertIs(shows_never(PLAIN, ("shares", weights, (kind,))), False)
        ends = ("cases", (1, 0), (("cases", (1, 1), ()),))
        self.assertIs(shows_never(PLAIN, ("cases", (0, 0), (ends, ends))), False)

    def test_papers_of_another_puzzle(self):
        papers = [never_paper(puzzle) for puzzle in WITHOUT]
        for puzzle in WITHOUT + WITH_LAYING:
            for paper in papers:
                self.assertIs(shows_never(puzzle, paper), is_paper(puzzle, paper))

    def test_many_cases_within_one_another(self):
        # Eight cells, each covered by a one, and the five is left.
        paper = ("shares", (), (0, -1))
        for many in range(8):
            row, column = [(2, 2), (2, 0), (1, 5), (1, 3), (1, 1), (0, 4), (0, 2), (0, 0)][many]
            paper = ("cases", (row, column), (paper,))
        self.assertEqual(depth(paper), 8)
        self.assertIs(shows_never(APART, paper), True)
        self.assertEqual(paper_size(APART, paper), ("cases", 1))
        self.assertIs(shows_never(APART, ("cases", (0, 0), (paper,))), False)

    def test_twenty_cases_within_one_another_and_more(self):
        # No floor has so many cells: these are no papers, and no trouble either.
        for many in [16, 17, 19, 20, 21, 22, 1000, 100000]:
            for puzzle in [CELL, BARE, THREE_CELLS, APART, WIDE]:
                for paper in [("cases", (0, 0), ()), ("shares", (), (-1,)), ()]:
                    for _ in range(many):
                        paper = ("cases", (0, 0), (paper,))
                    self.assertIs(shows_never(puzzle, paper), False)
                    self.assertIsNone(paper_size(puzzle, paper))

    def test_a_floor_of_sixteen_cells_tried_cell_by_cell(self):
        # The five lies nowhere, so that all ways end with no piece left that fits.
        puzzle = (("####",) * 4, ((ONE, 8), (((0, 0), (1, 0), (2, 0), (3, 0), (4, 0)), 1), (((0, 0), (0, 1), (0, 2)), 1)), False)
        self.assertEqual(spare(puzzle), 0)
        paper = tree_of_cases(puzzle)
        self.assertEqual(depth(paper), 10)
        self.assertIs(shows_never(puzzle, paper), True)
        self.assertEqual(paper_size(puzzle, paper), ("cases", count_ends(paper)))

    def test_values_are_not_changed(self):
        value = ["cases", [0, 0], [["cases", [0, 2], []]]]
        for one in [value, tuple(value), ("cases", (0, 0), value[2]), ("cases", (0, 0), (value[2][0],))]:
            self.assertIs(shows_never(THREE_CELLS, one), False)
            self.assertIsNone(paper_size(THREE_CELLS, one))
        self.assertEqual(value, ["cases", [0, 0], [["cases", [0, 2], []]]])


def tree_of_cases(puzzle, lain=()):
    """The paper that always tries the first bare cell, to the end."""
    bare, numbers, fitting = left_behind(puzzle, lain)
    over = [placement for placement in fitting if bare[0] in placement[1]]
    return ("cases", bare[0], tuple(tree_of_cases(puzzle, (*lain, one)) for one in over))


class NeverPaperTest(Case):
    def check(self, puzzle):
        paper = never_paper(puzzle)
        self.assertIs(type(paper), tuple)
        self.assertTrue(is_paper(puzzle, paper), (puzzle, paper))
        self.assertIs(shows_never(puzzle, paper), True)
        return paper

    def test_there_is_one(self):
        for puzzle in WITHOUT:
            self.check(puzzle)

    def test_there_is_none(self):
        for puzzle in WITH_LAYING:
            self.assertIsNone(never_paper(puzzle))

    def test_small_puzzles(self):
        found = []
        for puzzle in SMALL + small_puzzles(9, 150):
            if layings_by_search(puzzle):
                self.assertIsNone(never_paper(puzzle), puzzle)
            else:
                found.append(self.check(puzzle)[0])
        self.assertEqual(set(found), {"whole", "shares", "cases"})

    def test_the_simplest_kind_that_there_is(self):
        for puzzles, word in [(NO_WHOLE, "whole"), (NO_SHARE, "shares"), (CASES, "cases")]:
            for puzzle in puzzles:
                self.assertEqual(never_paper(puzzle)[0], word)

    def test_all_that_fits_on_a_floor_and_is_too_much_or_too_little(self):
        for floor in [("####",) * 4, ("######", "######", "####--"), ("#",), ("-#-#-#", "#-#-#-")]:
            for box in [((FIVE, 8), (ONE, 8)), ((ONE, 7),), ((TWO, 8), (THREE, 8), (ONE, 8), (FIVE, 8)), ((THREE, 1),)]:
                self.check((floor, box, True))


class WhyTest(Case):
    def test_each_word(self):
        for puzzles, word in [(WITH_LAYING, None), (NO_WHOLE, "whole"), (NO_SHARE, "shares"), (CASES, "cases")]:
            for puzzle in puzzles:
                self.assertEqual(why(puzzle), word, puzzle)

    def test_as_by_search(self):
        found = set()
        for puzzle in SMALL + small_puzzles(9, 60) + [BOTH_ONLY, CORNERED, NO_SHARES, THREE_CELLS, FOUR_CELLS, CELL]:
            wanted = None
            if not layings_by_search(puzzle):
                wanted = "whole" if not has_whole_sum(puzzle) else "shares" if not has_share_sum(puzzle) else "cases"
            self.assertEqual(why(puzzle), wanted, puzzle)
            found.add(wanted)
        self.assertEqual(found, {None, "whole", "shares", "cases"})

    def test_no_whole_sum_comes_first(self):
        for puzzle in [SPARE_ABOVE, SPARE_BELOW, TOO_SMALL, THREE_CELLS]:
            self.assertIsNone(whole_sum(puzzle))
            self.assertIsNone(share_sum(puzzle))
            self.assertEqual(why(puzzle), "whole")


class PaperSizeTest(Case):
    def test_right_papers(self):
        for puzzle, paper in RIGHT:
            self.assertEqual(paper_size(puzzle, paper), (paper[0], count_ends(paper)), paper)

    def test_some_numbers(self):
        self.assertEqual(paper_size(THREE_CELLS, ("whole", (HALF, HALF, HALF), (NONE,))), ("whole", 1))
        self.assertEqual(paper_size(THREE_CELLS, ("shares", (-1, 1, -1), (0,))), ("shares", 1))
        self.assertEqual(paper_size(BARE, ("cases", (0, 0), ())), ("cases", 1))
        self.assertEqual(paper_size(THREE_CELLS, ("cases", (0, 0), (("cases", (0, 2), ()),))), ("cases", 1))
        both = ("cases", (0, 1), (("whole", (HALF,), (NONE,)), ("shares", (-1,), (-1,))))
        self.assertEqual(paper_size(THREE_CELLS, both), ("cases", 2))
        ends = ("cases", (1, 0), ()), ("cases", (0, 1), ()), ("cases", (0, 1), ())
        self.assertEqual(paper_size(BOTH_ONLY, ("cases", (0, 0), ends)), ("cases", 3))

    def test_no_papers(self):
        for puzzle, paper in WRONG_PAPERS:
            self.assertIsNone(paper_size(puzzle, paper), paper)
        for puzzle in WITH_LAYING:
            self.assertIsNone(paper_size(puzzle, never_paper(puzzle)))

    def test_given_papers(self):
        for puzzle in WITHOUT:
            paper = never_paper(puzzle)
            self.assertEqual(paper_size(puzzle, paper), (why(puzzle), count_ends(paper)))

    def test_given_papers_of_cases_are_short(self):
        for puzzle, most in [(BOTH_ONLY, 3), (CORNERED, 4), (NINE, 11), (SNAKE, 8), (CROSSED, 33), (WIDE, 96)]:
            self.assertLessEqual(paper_size(puzzle, never_paper(puzzle))[1], most)


class ArgumentsTest(Case):
    def test_wrong_puzzles(self):
        for value, word in WRONG:
            self.bad_puzzle(word, never_paper, value)
            self.bad_puzzle(word, why, value)
            for other in [None, (), ("cases", (0, 0), ()), 0]:
                self.bad_puzzle(word, shows_never, value, other)
                self.bad_puzzle(word, paper_size, value, other)

    def test_equal_arguments_have_equal_answers(self):
        for puzzle in PUZZLES + WITHOUT:
            again = (tuple(list(puzzle[0])), tuple((tuple(list(piece)), many) for piece, many in puzzle[1]), puzzle[2])
            paper = never_paper(again)
            self.assertEqual(why(again), why(puzzle))
            self.assertEqual(shows_never(puzzle, paper), not layings(puzzle))
            self.assertEqual(paper_size(again, paper), paper_size(puzzle, paper))


class ExampleTest(unittest.TestCase):
    def test_the_example_of_the_interface(self):
        lame = (("-###", "####", "-###"), ((((0, 0), (0, 1)), 5),), False)
        one = (("##-#",), ((((0, 0), (0, 1), (0, 2)), 1),), False)
        told = [
            why(lame),
            shows_never(lame, never_paper(lame)),
            paper_size(lame, never_paper(lame)),
            why((("##", "##"), ((((0, 0), (0, 1)), 2),), False)),
            why(one),
            shows_never(one, ("cases", (0, 0), ())),
            shows_never(one, ("cases", (0, 2), ())),
            paper_size(one, ("cases", (0, 0), ())),
        ]
        self.assertEqual(told, ["whole", True, ("whole", 1), None, "whole", True, False, ("cases", 1)])


if __name__ == "__main__":
    unittest.main()

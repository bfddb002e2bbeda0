"""Point 7: whole sums, and the least numbers that sums can have in step."""

import math
import unittest
from fractions import Fraction

from fitfloors.counting import layings
from fitfloors.puzzles import placements
from fitfloors.wholes import shows_whole_sum, steps_between, weights_against_wholes, whole_sum
from samples import (
    BARE,
    BENT,
    BOTH_ONLY,
    FAR_MORE,
    FLAT,
    FOURS,
    GAPS,
    HOLED,
    JUST_2000,
    LAME,
    LARGE,
    MIXED,
    NO_LAYINGS_OF_PLAIN,
    ONE,
    PLAIN,
    SHARE_ONLY,
    SMALL,
    SPARE_ABOVE,
    SPARE_BELOW,
    STAIRS,
    STAIRS_FLIPPED,
    STEPS,
    THREE,
    TOO_SMALL,
    TWO,
    UPRIGHT,
    WHOLE_ONLY,
    WRONG,
    Case,
)
from searches import has_whole_sum, rows_of_numbers, steps_by_minors, total_of

WITH_ONE = [PLAIN, HOLED, MIXED, STAIRS, STAIRS_FLIPPED, GAPS, LARGE, JUST_2000, FOURS, FAR_MORE, WHOLE_ONLY, BOTH_ONLY]
WITHOUT = [LAME, BARE, SHARE_ONLY, SPARE_ABOVE, SPARE_BELOW, TOO_SMALL]

TEE = ((0, 0), (0, 1), (0, 2), (1, 1))
BACK_STEPS = ((0, 1), (0, 2), (1, 0), (1, 1))
FOUR = ((0, 0), (0, 1), (0, 2), (0, 3))

# Puzzles with the integers above 1 among the least numbers of their sums.
STEPPED = [
    ((("#", "-", "#", "#"), ((ONE, 1), (TWO, 1)), True), (2,)),
    ((("##-#", "##-#"), ((BENT, 2),), False), (3,)),
    ((("-#-", "###", "##-", "##-"), ((TEE, 2),), False), (4,)),
    ((("##",) * 4, ((ONE, 3), (((0, 0), (0, 1), (0, 2), (0, 3), (1, 2)), 1)), False), (5,)),
    ((("#--",) + ("###",) * 3, ((BACK_STEPS, 1), (((0, 0), (1, 0), (2, 0)), 2)), False), (15,)),
    ((("####", "####"), ((STEPS, 1), (FOUR, 1)), True), (2, 2)),
    ((("###", "###"), ((TWO, 1), (((0, 0), (1, 0), (1, 1), (2, 0)), 1)), False), (2, 4)),
    ((("#-##", "#--#", "###-", "####"), ((TEE, 1), (BACK_STEPS, 2)), True), (2, 5)),
    (
        (
            ("###-", "-###", "####"),
            ((((0, 0), (0, 2), (1, 0), (1, 1), (1, 2)), 1), (((0, 1), (1, 0), (1, 1), (2, 1), (2, 2)), 1)),
            False,
        ),
        (2, 3),
    ),
]

SUM = ((FLAT[0], 1), (FLAT[1], 1))

# Values that are no whole sum of the plain puzzle, and no None.
NO_SUMS_OF_PLAIN = [
    # no tuples of pairs
    0,
    1,
    True,
    False,
    "",
    "ab",
    b"",
    [],
    {},
    set(),
    list(SUM),
    [list(pair) for pair in SUM],
    dict(SUM),
    set(SUM),
    (None,),
    (None, None),
    FLAT,
    SUM[0],
    (SUM,),
    (SUM[0], list(SUM[1])),
    (SUM[0], (FLAT[1],)),
    (SUM[0], (FLAT[1], 1, 1)),
    (SUM[0], (1, FLAT[1])),
    (SUM[0], ()),
    (SUM[0], "ab"),
    # no integers other than 0
    ((FLAT[0], True), (FLAT[1], 1)),
    ((FLAT[0], 1), (FLAT[1], True)),
    ((FLAT[0], 1), (FLAT[1], 1.0)),
    ((FLAT[0], 1), (FLAT[1], "1")),
    ((FLAT[0], 1), (FLAT[1], None)),
    ((FLAT[0], 1), (FLAT[1], (1, 1))),
    ((FLAT[0], 1), (UPRIGHT[0], 0), (FLAT[1], 1)),
    ((FLAT[0], 1), (UPRIGHT[0], False), (FLAT[1], 1)),
    # not ascending, or a placement twice
    (SUM[1], SUM[0]),
    (SUM[0], SUM[0]),
    (SUM[0], (FLAT[1], -1), (FLAT[1], 2)),
    ((FLAT[0], -1), (FLAT[0], 2), SUM[1]),
    (SUM[0], SUM[1], (UPRIGHT[0], 1), (UPRIGHT[1], -1)),
    # no placements
    (SUM[0], ((1, ((1, 0), (1, 1))), 1)),
    (SUM[0], ((-1, ((1, 0), (1, 1))), 1)),
    (SUM[0], ((0, ((1, 0), (1, 1), (1, 2))), 1)),
    (SUM[0], ((0, ((1, 1), (1, 0))), 1)),
    (SUM[0], ((0, [(1, 0), (1, 1)]), 1)),
    (SUM[0], ((False, ((1, 0), (1, 1))), 1)),
    (SUM[0], ((0, ((True, 0), (1, 1))), 1)),
    (SUM[0], ((0, ((1, 0), (1, 1.0))), 1)),
    (SUM[0], (None, 1)),
    (SUM[0], (FLAT, 1)),
    (SUM[0], ([], 1)),
    (SUM[0], ({}, 1)),
    # wrong sums
    (),
    (SUM[0],),
    (SUM[1],),
    ((FLAT[0], 2), (FLAT[1], 1)),
    ((FLAT[0], -1), (FLAT[1], -1)),
    ((FLAT[0], 1), (FLAT[1], -1)),
    ((FLAT[0], 1), (UPRIGHT[0], 1), (UPRIGHT[1], 1), (FLAT[1], 1)),
    ((FLAT[0], 1), (UPRIGHT[0], 1), (FLAT[1], 1)),
    ((FLAT[0], 10**40), (FLAT[1], 1)),
]


class WholeSumTest(Case):
    def check(self, puzzle, found):
        self.assertIsInstance(found, tuple)
        self.assertTrue(all(type(pair) is tuple and len(pair) == 2 for pair in found))
        self.assertTrue(all(type(factor) is int and factor != 0 for placement, factor in found))
        summands = [placement for placement, factor in found]
        self.assertEqual(summands, sorted(set(summands)))
        self.assertTrue(set(summands) <= set(placements(puzzle)))
        self.assertEqual(set(total_of(puzzle, found)), {0})

    def test_there_is_one(self):
        for puzzle in WITH_ONE:
            self.check(puzzle, whole_sum(puzzle))

    def test_there_is_none(self):
        for puzzle in WITHOUT:
            self.assertIsNone(whole_sum(puzzle), puzzle)

    def test_there_is_one_though_there_is_no_laying(self):
        for puzzle in [WHOLE_ONLY, BOTH_ONLY]:
            self.assertEqual(layings(puzzle), ())
            self.assertTrue(any(factor < 0 for placement, factor in whole_sum(puzzle)))

    def test_as_by_search(self):
        for puzzle in SMALL + [puzzle for puzzle, steps in STEPPED]:
            found = whole_sum(puzzle)
            self.assertEqual(found is not None, has_whole_sum(puzzle), puzzle)
            if found is not None:
                self.check(puzzle, found)

    def test_there_is_one_where_there_is_a_laying(self):
        for puzzle in SMALL:
            if layings(puzzle):
                self.check(puzzle, whole_sum(puzzle))

    def test_the_numbers_do_not_grow_with_each_placement(self):
        tee = ((0, 1), (1, 1), (2, 0), (2, 1), (2, 2))
        corner = ((0, 0), (1, 0), (2, 0), (2, 1), (2, 2))
        for puzzle in [
            (("####",) * 4, ((tee, 1), (corner, 1), (BENT, 2)), True),
            (("-###-", "#####", "#####", "-###-"), ((tee, 2), (BENT, 2)), True),
            (("#####", "#####", "#####", "#----"), ((tee, 2), (THREE, 2)), False),
        ]:
            found = whole_sum(puzzle)
            self.check(puzzle, found)
            self.assertLess(max(abs(factor) for placement, factor in found), 10**6)


class ShowsWholeSumTest(Case):
    def test_right_sums(self):
        self.assertIs(shows_whole_sum(PLAIN, SUM), True)
        self.assertIs(shows_whole_sum(PLAIN, ((UPRIGHT[0], 1), (UPRIGHT[1], 1))), True)
        both = ((FLAT[0], 2), (UPRIGHT[0], -1), (UPRIGHT[1], -1), (FLAT[1], 2))
        self.assertIs(shows_whole_sum(PLAIN, both), True)
        much = ((FLAT[0], 1 - 10**30), (UPRIGHT[0], 10**30), (UPRIGHT[1], 10**30), (FLAT[1], 1 - 10**30))
        self.assertIs(shows_whole_sum(PLAIN, much), True)

    def test_what_whole_sum_gives(self):
        for puzzle in WITH_ONE + WITHOUT + SMALL:
            self.assertIs(shows_whole_sum(puzzle, whole_sum(puzzle)), True)

    def test_layings_are_sums(self):
        for puzzle in [HOLED, MIXED, LARGE, STAIRS_FLIPPED]:
            for laying in layings(puzzle):
                self.assertIs(shows_whole_sum(puzzle, tuple((one, 1) for one in laying)), True)
                self.assertIs(shows_whole_sum(puzzle, laying), False)

    def test_bent_sums(self):
        for value in NO_SUMS_OF_PLAIN:
            self.assertIs(shows_whole_sum(PLAIN, value), False, value)
        for value in NO_LAYINGS_OF_PLAIN:
            self.assertIs(shows_whole_sum(PLAIN, value), False, value)

    def test_each_part_of_a_sum_counts(self):
        for puzzle in [WHOLE_ONLY, BOTH_ONLY, HOLED, MIXED]:
            found = whole_sum(puzzle)
            for at, (placement, factor) in enumerate(found):
                before, behind = found[:at], found[at + 1:]
                for part in [
                    (),
                    ((placement, factor + 1),),
                    ((placement, -factor),),
                    ((placement, 0),),
                    ((placement, factor), (placement, factor)),
                    ((placement, (factor, 1)),),
                ]:
                    self.assertIs(shows_whole_sum(puzzle, before + part + behind), False)
                self.assertIs(shows_whole_sum(puzzle, behind + found[: at + 1]), behind == ())

    def test_the_numbers_of_the_kinds_count(self):
        # The cells add up, but with other numbers of pieces than the box has.
        ones = tuple(((1, (cell,)), 1) for cell in [(0, 0), (0, 1), (1, 0), (1, 1)])
        for numbers, wanted in [((1, 2), False), ((2, 4), False), ((1, 4), False)]:
            puzzle = (("##", "##"), ((TWO, numbers[0]), (ONE, numbers[1])), False)
            self.assertIs(shows_whole_sum(puzzle, ones), wanted)
            self.assertIs(shows_whole_sum(puzzle, SUM), wanted)
        mixed = (SUM[0],) + ones[2:]
        self.assertIs(shows_whole_sum((("##", "##"), ((TWO, 1), (ONE, 2)), False), mixed), True)

    def test_none(self):
        for puzzle in WITHOUT:
            self.assertIs(shows_whole_sum(puzzle, None), True, puzzle)
            for value in [(), 0, False, "", [], SUM]:
                self.assertIs(shows_whole_sum(puzzle, value), False, value)
        for puzzle in WITH_ONE:
            self.assertIs(shows_whole_sum(puzzle, None), False, puzzle)

    def test_the_sum_of_another_puzzle(self):
        self.assertIs(shows_whole_sum((("##", "##"), ((TWO, 1),), False), SUM), False)
        self.assertIs(shows_whole_sum((("##-", "###"), ((TWO, 2),), False), SUM), False)
        self.assertIs(shows_whole_sum((("##-", "##-"), ((TWO, 2),), True), SUM), True)

    def test_values_are_not_changed(self):
        value = [[(0, ((0, 0), (0, 1))), 1], [(0, ((1, 0), (1, 1))), 1]]
        self.assertIs(shows_whole_sum(PLAIN, value), False)
        self.assertIs(shows_whole_sum(PLAIN, tuple(value)), False)
        self.assertEqual(value, [list(pair) for pair in SUM])


class StepsBetweenTest(Case):
    def test_some_puzzles(self):
        for puzzle, wanted in STEPPED:
            self.assertEqual(steps_between(puzzle), wanted, puzzle)

    def test_as_by_reckoning(self):
        found = []
        for puzzle in SMALL + [puzzle for puzzle, steps in STEPPED] + [PLAIN, STAIRS, SHARE_ONLY, WHOLE_ONLY, BOTH_ONLY]:
            wanted = tuple(sorted(step for step in steps_by_minors(puzzle) if step > 1))
            self.assertEqual(steps_between(puzzle), wanted, puzzle)
            found.append(wanted)
        self.assertIn((2, 2), found)

    def test_integers_as_often_as_they_come(self):
        square = ((0, 0), (0, 1), (1, 0), (1, 1))
        puzzle = (("####",) * 3, ((BACK_STEPS, 1), (((0, 0), (1, 0), (2, 0), (3, 0)), 1), (square, 1)), False)
        self.assertEqual(steps_between(puzzle), (2, 2, 2))

    def test_none_above_1(self):
        self.assertEqual(steps_between(PLAIN), ())
        self.assertEqual(steps_between(MIXED), ())
        self.assertEqual(steps_between((("#",), ((ONE, 1),), False)), ())

    def test_no_placements(self):
        self.assertEqual(steps_between(BARE), ())
        self.assertEqual(steps_between((("#-#",), ((TWO, 3), (BENT, 1)), True)), ())

    def test_the_numbers_in_the_box_do_not_matter(self):
        for (floor, box, is_flipped), wanted in STEPPED:
            for number in [1, 8]:
                other = tuple((piece, number) for piece, many in box)
                self.assertEqual(steps_between((floor, other, is_flipped)), wanted)


class WeightsTest(Case):
    def test_just_where_there_is_no_whole_sum(self):
        for puzzle in WITH_ONE + WITHOUT + SMALL:
            self.assertEqual(weights_against_wholes(puzzle) is None, whole_sum(puzzle) is not None, puzzle)

    def test_placements_weigh_integers_and_the_wish_does_not(self):
        for puzzle in WITHOUT + SMALL:
            weights = weights_against_wholes(puzzle)
            if weights is None:
                continue
            self.assertTrue(all(weight[1] > 0 and math.gcd(*weight) == 1 for weight in weights))
            ratios = [Fraction(*weight) for weight in weights]
            rows = rows_of_numbers(puzzle)
            for at in range(len(rows[0][0])):
                self.assertEqual(sum(ratio * row[at] for ratio, (row, wanted) in zip(ratios, rows)).denominator, 1)
            self.assertGreater(sum(ratio * wanted for ratio, (row, wanted) in zip(ratios, rows)).denominator, 1)


class ArgumentsTest(Case):
    def test_wrong_puzzles(self):
        for value, word in WRONG:
            self.bad_puzzle(word, whole_sum, value)
            self.bad_puzzle(word, steps_between, value)
            for other in [None, (), SUM, 0]:
                self.bad_puzzle(word, shows_whole_sum, value, other)

    def test_equal_arguments_have_equal_answers(self):
        again = (tuple(["##"] * 2), tuple([(tuple([(0, 0), (0, 1)]), 2)]), False)
        self.assertEqual(steps_between(again), steps_between(PLAIN))
        self.assertIs(shows_whole_sum(again, SUM), shows_whole_sum(PLAIN, SUM))


class ExampleTest(unittest.TestCase):
    def test_the_example_of_the_interface(self):
        puzzle = (("##", "##"), ((((0, 0), (0, 1)), 2),), False)
        lame = (("-###", "####", "-###"), ((((0, 0), (0, 1)), 5),), False)
        told = [
            shows_whole_sum(puzzle, (((0, ((0, 0), (0, 1))), 1), ((0, ((1, 0), (1, 1))), 1))),
            shows_whole_sum(puzzle, whole_sum(puzzle)),
            whole_sum(lame),
            shows_whole_sum(lame, None),
            steps_between((("##-#",), ((((0, 0), (0, 1), (0, 2)), 1),), False)),
        ]
        self.assertEqual(told, [True, True, None, True, ()])


if __name__ == "__main__":
    unittest.main()

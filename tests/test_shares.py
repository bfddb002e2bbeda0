"""Point 8: share sums."""

import math
import unittest
from fractions import Fraction

from fitfloors.counting import layings
from fitfloors.puzzles import placements
from fitfloors.shares import share_sum, shows_share_sum, weights_against_shares
from samples import (
    BARE,
    BOTH_ONLY,
    FAR_MORE,
    FLAT,
    FOURS,
    GAPS,
    HOLED,
    HOOK,
    JUST_2000,
    LAME,
    LARGE,
    MIXED,
    NO_LAYINGS_OF_PLAIN,
    ONE,
    PLAIN,
    SHARE_ONLY,
    SMALL,
    SPARE_ABOVE,
    SPARE_BELOW,
    SQUARE,
    STAIRS,
    STAIRS_FLIPPED,
    STEPS,
    TOO_SMALL,
    TWO,
    UPRIGHT,
    WHOLE_ONLY,
    WRONG,
    Case,
)
from searches import has_share_sum, rows_of_numbers, total_of

WITH_ONE = [PLAIN, HOLED, MIXED, STAIRS, STAIRS_FLIPPED, GAPS, LARGE, JUST_2000, FOURS, FAR_MORE, SHARE_ONLY, BOTH_ONLY]
WITHOUT = [LAME, BARE, WHOLE_ONLY, SPARE_ABOVE, SPARE_BELOW, TOO_SMALL]

FIRST, SECOND, THIRD, FOURTH = FLAT[0], UPRIGHT[0], UPRIGHT[1], FLAT[1]
SUM = ((FIRST, (1, 1)), (FOURTH, (1, 1)))
HALVES = tuple((one, (1, 2)) for one in (FIRST, SECOND, THIRD, FOURTH))

# Values that are no share sum of the plain puzzle, and no None.
NO_SUMS_OF_PLAIN = [
    # no tuples of pairs
    0,
    1,
    True,
    False,
    "",
    "ab",
    b"",
    [],
    {},
    set(),
    list(SUM),
    [list(pair) for pair in SUM],
    dict(SUM),
    set(SUM),
    (None,),
    (None, None),
    FLAT,
    SUM[0],
    (SUM,),
    (SUM[0], list(SUM[1])),
    (SUM[0], (FOURTH,)),
    (SUM[0], (FOURTH, 1, 1)),
    (SUM[0], ((1, 1), FOURTH)),
    (SUM[0], ()),
    (SUM[0], "ab"),
    # no ratios
    ((FIRST, 1), (FOURTH, 1)),
    (SUM[0], (FOURTH, 1)),
    (SUM[0], (FOURTH, True)),
    (SUM[0], (FOURTH, None)),
    (SUM[0], (FOURTH, "11")),
    (SUM[0], (FOURTH, (1,))),
    (SUM[0], (FOURTH, (1, 1, 1))),
    (SUM[0], (FOURTH, ())),
    (SUM[0], (FOURTH, [1, 1])),
    (SUM[0], (FOURTH, (True, 1))),
    (SUM[0], (FOURTH, (1, True))),
    (SUM[0], (FOURTH, (1.0, 1))),
    (SUM[0], (FOURTH, (1, 1.0))),
    (SUM[0], (FOURTH, (None, 1))),
    (SUM[0], (FOURTH, ("1", "1"))),
    (SUM[0], (FOURTH, Fraction(1))),
    # ratios that can be shortened
    (SUM[0], (FOURTH, (2, 2))),
    ((FIRST, (3, 3)), SUM[1]),
    HALVES[:3] + ((FOURTH, (2, 4)),),
    ((FIRST, (5, 10)),) + HALVES[1:],
    # denominators below 0, and 0
    (SUM[0], (FOURTH, (-1, -1))),
    HALVES[:3] + ((FOURTH, (-1, -2)),),
    (SUM[0], (FOURTH, (1, 0))),
    (SUM[0], (FOURTH, (0, 0))),
    # ratios of 0 and below
    (SUM[0], (SECOND, (0, 1)), SUM[1]),
    (SUM[0], (SECOND, (0, 2)), SUM[1]),
    ((FIRST, (2, 1)), (SECOND, (-1, 1)), (THIRD, (-1, 1)), (FOURTH, (2, 1))),
    ((FIRST, (3, 2)), (SECOND, (1, -2)), (THIRD, (1, -2)), (FOURTH, (3, 2))),
    # not ascending, or a placement twice
    (SUM[1], SUM[0]),
    (SUM[0], SUM[0]),
    (SUM[0], (FOURTH, (1, 2)), (FOURTH, (1, 2))),
    ((FIRST, (1, 3)), (FIRST, (2, 3)), SUM[1]),
    (HALVES[1], HALVES[0], HALVES[2], HALVES[3]),
    HALVES[::-1],
    # no placements
    (SUM[0], ((1, ((1, 0), (1, 1))), (1, 1))),
    (SUM[0], ((-1, ((1, 0), (1, 1))), (1, 1))),
    (SUM[0], ((0, ((1, 1), (1, 0))), (1, 1))),
    (SUM[0], ((0, ((1, 1), (1, 2))), (1, 1))),
    (SUM[0], ((0, [(1, 0), (1, 1)]), (1, 1))),
    (SUM[0], ((False, ((1, 0), (1, 1))), (1, 1))),
    (SUM[0], ((0, ((True, 0), (1, 1))), (1, 1))),
    (SUM[0], ((0.0, ((1, 0), (1, 1))), (1, 1))),
    (SUM[0], (None, (1, 1))),
    (SUM[0], ([], (1, 1))),
    (SUM[0], (FLAT, (1, 1))),
    # wrong sums
    (),
    (SUM[0],),
    (SUM[1],),
    HALVES[:3],
    HALVES[1:],
    HALVES[:1] + HALVES[2:],
    ((FIRST, (1, 2)), (FOURTH, (1, 2))),
    ((FIRST, (2, 1)), (FOURTH, (2, 1))),
    ((FIRST, (1, 1)), (SECOND, (1, 1)), (THIRD, (1, 1)), (FOURTH, (1, 1))),
    ((FIRST, (1, 3)), (SECOND, (1, 2)), (THIRD, (1, 2)), (FOURTH, (2, 3))),
    ((FIRST, (10**40, 10**40 + 1)), (FOURTH, (1, 1))),
]


class ShareSumTest(Case):
    def check(self, puzzle, found):
        self.assertIsInstance(found, tuple)
        self.assertTrue(all(type(pair) is tuple and len(pair) == 2 for pair in found))
        for placement, ratio in found:
            self.assertIs(type(ratio), tuple)
            self.assertEqual([type(part) for part in ratio], [int, int])
            self.assertGreater(min(ratio), 0)
            self.assertEqual(math.gcd(*ratio), 1)
        summands = [placement for placement, ratio in found]
        self.assertEqual(summands, sorted(set(summands)))
        self.assertTrue(set(summands) <= set(placements(puzzle)))
        self.assertEqual(set(total_of(puzzle, [(one, Fraction(*ratio)) for one, ratio in found])), {0})

    def test_there_is_one(self):
        for puzzle in WITH_ONE:
            self.check(puzzle, share_sum(puzzle))

    def test_there_is_none(self):
        for puzzle in WITHOUT:
            self.assertIsNone(share_sum(puzzle), puzzle)

    def test_there_is_one_though_there_is_no_laying(self):
        for puzzle in [SHARE_ONLY, BOTH_ONLY]:
            self.assertEqual(layings(puzzle), ())
            self.assertTrue(any(ratio[1] > 1 for placement, ratio in share_sum(puzzle)))

    def test_as_by_search(self):
        found = []
        for puzzle in SMALL:
            given = share_sum(puzzle)
            self.assertEqual(given is not None, has_share_sum(puzzle), puzzle)
            found.append(given is None)
            if given is not None:
                self.check(puzzle, given)
        self.assertEqual(set(found), {True, False})

    def test_the_other_samples_as_by_search(self):
        for puzzle in [PLAIN, STAIRS, STAIRS_FLIPPED, GAPS, SHARE_ONLY, BOTH_ONLY, WHOLE_ONLY, LAME, BARE, TOO_SMALL]:
            self.assertEqual(share_sum(puzzle) is not None, has_share_sum(puzzle))

    def test_there_is_one_where_there_is_a_laying(self):
        for puzzle in SMALL:
            if layings(puzzle):
                self.check(puzzle, share_sum(puzzle))

    def test_many_placements(self):
        corner = ((0, 0), (0, 1), (0, 2), (1, 0), (2, 0))
        long_tee = ((0, 0), (0, 1), (0, 2), (0, 3), (1, 1))
        boxes = [
            ((HOOK, 2), (STEPS, 1), (SQUARE, 1)),
            ((corner, 1), (long_tee, 1), (HOOK, 1), (TWO, 1)),
            ((corner, 1), (HOOK, 1), (STEPS, 1), (((0, 0), (0, 1), (0, 2)), 1)),
        ]
        for box in boxes:
            for floor in [("####",) * 4, ("######", "######", "####--"), ("-###-", "#####", "#####", "-###-")]:
                self.check((floor, box, True), share_sum((floor, box, True)))

    def test_many_placements_and_none(self):
        # One cell of the floor stands apart, and no piece is a one.
        box = ((HOOK, 2), (STEPS, 1), (SQUARE, 1))
        self.assertIsNone(share_sum((("#####-", "#####-", "#####-", "-----#"), box, True)))
        # There are enough cells, but just one more piece than there should be.
        self.assertIsNone(share_sum((("####",) * 4, ((HOOK, 2), (STEPS, 2), (SQUARE, 1)), True)))


class ShowsShareSumTest(Case):
    def test_right_sums(self):
        self.assertIs(shows_share_sum(PLAIN, SUM), True)
        self.assertIs(shows_share_sum(PLAIN, ((SECOND, (1, 1)), (THIRD, (1, 1)))), True)
        self.assertIs(shows_share_sum(PLAIN, HALVES), True)
        thirds = ((FIRST, (1, 3)), (SECOND, (2, 3)), (THIRD, (2, 3)), (FOURTH, (1, 3)))
        self.assertIs(shows_share_sum(PLAIN, thirds), True)
        few, most = (1, 10**40), (10**40 - 1, 10**40)
        self.assertIs(shows_share_sum(PLAIN, ((FIRST, few), (SECOND, most), (THIRD, most), (FOURTH, few))), True)

    def test_unlike_denominators(self):
        puzzle = (("##", "##", "##"), ((TWO, 3),), False)
        listed = layings(puzzle)
        parts = [Fraction(1, 2), Fraction(1, 3), Fraction(1, 6)]
        total = {}
        for laying, part in zip(listed, parts):
            for placement in laying:
                total[placement] = total.get(placement, 0) + part
        pairs = tuple((one, (total[one].numerator, total[one].denominator)) for one in sorted(total))
        self.assertGreater(len({ratio[1] for one, ratio in pairs}), 2)
        self.assertIs(shows_share_sum(puzzle, pairs), True)
        for at in range(len(pairs)):
            self.assertIs(shows_share_sum(puzzle, pairs[:at] + pairs[at + 1:]), False)

    def test_denominators_of_which_none_is_a_multiple_of_all(self):
        puzzle = (("##-##", "##-##"), ((TWO, 4),), False)
        pairs = []
        for placement in placements(puzzle):
            (row, column), (other, behind) = placement[1]
            part = (1, 2) if column < 2 else ((2, 5) if row == other else (3, 5))
            pairs.append((placement, part))
        self.assertIs(shows_share_sum(puzzle, tuple(pairs)), True)
        for at, (placement, part) in enumerate(pairs):
            wrong = {(1, 2): (2, 5), (2, 5): (1, 2), (3, 5): (1, 2)}[part]
            self.assertIs(shows_share_sum(puzzle, tuple(pairs[:at] + [(placement, wrong)] + pairs[at + 1:])), False)

    def test_what_share_sum_gives(self):
        for puzzle in WITH_ONE + WITHOUT + SMALL:
            self.assertIs(shows_share_sum(puzzle, share_sum(puzzle)), True)

    def test_layings_are_sums(self):
        for puzzle in [HOLED, MIXED, LARGE, STAIRS_FLIPPED]:
            for laying in layings(puzzle):
                self.assertIs(shows_share_sum(puzzle, tuple((one, (1, 1)) for one in laying)), True)
                self.assertIs(shows_share_sum(puzzle, laying), False)

    def test_bent_sums(self):
        for value in NO_SUMS_OF_PLAIN:
            self.assertIs(shows_share_sum(PLAIN, value), False, value)
        for value in NO_LAYINGS_OF_PLAIN:
            self.assertIs(shows_share_sum(PLAIN, value), False, value)

    def test_each_part_of_a_sum_counts(self):
        for puzzle in [SHARE_ONLY, BOTH_ONLY, HOLED, MIXED]:
            found = share_sum(puzzle)
            for at, (placement, (above, below)) in enumerate(found):
                before, behind = found[:at], found[at + 1:]
                for part in [
                    (),
                    ((placement, (above + below, below)),),
                    ((placement, (2 * above, 2 * below)),),
                    ((placement, (-above, -below)),),
                    ((placement, (-above, below)),),
                    ((placement, (above, below)), (placement, (above, below))),
                    ((placement, above),),
                ]:
                    self.assertIs(shows_share_sum(puzzle, before + part + behind), False)

    def test_the_numbers_of_the_kinds_count(self):
        ones = tuple(((1, (cell,)), (1, 1)) for cell in [(0, 0), (0, 1), (1, 0), (1, 1)])
        for numbers in [(1, 2), (2, 4), (1, 4)]:
            puzzle = (("##", "##"), ((TWO, numbers[0]), (ONE, numbers[1])), False)
            self.assertIs(shows_share_sum(puzzle, ones), False)
            self.assertIs(shows_share_sum(puzzle, SUM), False)
        mixed = (SUM[0],) + ones[2:]
        self.assertIs(shows_share_sum((("##", "##"), ((TWO, 1), (ONE, 2)), False), mixed), True)

    def test_none(self):
        for puzzle in WITHOUT:
            self.assertIs(shows_share_sum(puzzle, None), True, puzzle)
            for value in [(), 0, False, "", [], SUM]:
                self.assertIs(shows_share_sum(puzzle, value), False, value)
        for puzzle in WITH_ONE:
            self.assertIs(shows_share_sum(puzzle, None), False, puzzle)

    def test_values_are_not_changed(self):
        value = [[(0, ((0, 0), (0, 1))), [1, 1]], [(0, ((1, 0), (1, 1))), [1, 1]]]
        self.assertIs(shows_share_sum(PLAIN, value), False)
        self.assertIs(shows_share_sum(PLAIN, tuple(value)), False)
        self.assertIs(shows_share_sum(PLAIN, tuple(tuple(pair) for pair in value)), False)
        self.assertEqual(value, [[placement, list(ratio)] for placement, ratio in SUM])


class WeightsTest(Case):
    def test_just_where_there_is_no_share_sum(self):
        for puzzle in WITH_ONE + WITHOUT + SMALL:
            self.assertEqual(weights_against_shares(puzzle) is None, share_sum(puzzle) is not None, puzzle)

    def test_no_placement_weighs_below_0_and_the_wish_does(self):
        for puzzle in WITHOUT + SMALL:
            weights = weights_against_shares(puzzle)
            if weights is None:
                continue
            self.assertEqual({type(weight) for weight in weights}, {int})
            rows = rows_of_numbers(puzzle)
            for at in range(len(rows[0][0])):
                self.assertGreaterEqual(sum(weight * row[at] for weight, (row, wanted) in zip(weights, rows)), 0)
            self.assertLess(sum(weight * wanted for weight, (row, wanted) in zip(weights, rows)), 0)


class ArgumentsTest(Case):
    def test_wrong_puzzles(self):
        for value, word in WRONG:
            self.bad_puzzle(word, share_sum, value)
            for other in [None, (), SUM, 0]:
                self.bad_puzzle(word, shows_share_sum, value, other)

    def test_equal_arguments_have_equal_answers(self):
        again = (tuple(["##"] * 2), tuple([(tuple([(0, 0), (0, 1)]), 2)]), False)
        self.assertIs(shows_share_sum(again, HALVES), shows_share_sum(PLAIN, HALVES))


class ExampleTest(unittest.TestCase):
    def test_the_example_of_the_interface(self):
        puzzle = (("##", "##"), ((((0, 0), (0, 1)), 2),), False)
        told = [
            shows_share_sum(puzzle, tuple([(one, (1, 2)) for one in placements(puzzle)])),
            shows_share_sum(puzzle, share_sum(puzzle)),
            share_sum((("##-#",), ((((0, 0), (0, 1), (0, 2)), 1),), False)),
        ]
        self.assertEqual(told, [True, True, None])


if __name__ == "__main__":
    unittest.main()

"""Points 3 and 4: puzzles, their placements, and layings."""

import copy
import itertools
import unittest

from fitfloors.errors import BadCell
from fitfloors.pieces import forms, pieces_of
from fitfloors.puzzles import covering, floor_cells, is_laying, is_puzzle, placements, shown, spare
from samples import (
    BACK_STEPS,
    BENT,
    BOX,
    FIVE,
    FLAT,
    FLOOR,
    HOLED,
    HOOK,
    LARGE,
    MIXED,
    NO_CELLS_OF_PLAIN,
    NO_LAYINGS_OF_PLAIN,
    ONE,
    PLAIN,
    PUZZLES,
    SQUARE,
    STAIRS,
    STAIRS_FLIPPED,
    STEPS,
    THREE,
    TOO_SMALL,
    TWO,
    UPRIGHT,
    WRONG,
    Case,
)
from searches import layings_by_search, placements_by_search


class IsPuzzleTest(Case):
    def test_puzzles(self):
        for value in PUZZLES:
            self.assertIs(is_puzzle(value), True, value)

    def test_no_puzzles(self):
        for value, word in WRONG:
            self.assertIs(is_puzzle(value), False, (value, word))

    def test_each_function_tells_what_is_wrong_first(self):
        for value, word in WRONG:
            for call in [floor_cells, spare, placements]:
                self.bad_puzzle(word, call, value)
            self.bad_puzzle(word, covering, value, (0, 0))
            self.bad_puzzle(word, is_laying, value, FLAT)
            self.bad_puzzle(word, shown, value, FLAT)

    def test_floors_at_their_limits(self):
        for floor in [
            ("#",),
            ("#",) * 6,
            ("######",),
            ("-----#",),
            ("-",) * 5 + ("#",),
            ("####",) * 4,
            ("######", "######", "####--"),
            ("###---", "---###", "###---", "---###", "###---", "#-----"),
            ("#-#", "---", "#-#"),
        ]:
            self.assertIs(is_puzzle((floor, BOX, False)), True, floor)

    def test_floors_beyond_their_limits(self):
        for floor in [
            ("#",) * 7,
            ("#######",),
            ("######", "######", "#####-"),
            ("------",) * 6,
            (),
            ("",),
        ]:
            self.assertIs(is_puzzle((floor, BOX, False)), False, floor)
            self.bad_puzzle("floor", floor_cells, (floor, BOX, False))

    def test_boxes_at_their_limits(self):
        for box in [
            ((ONE, 1),),
            ((ONE, 8),),
            ((FIVE, 8),),
            ((ONE, 8), (TWO, 8), (THREE, 8), (BENT, 8)),
            tuple((piece, 1) for piece in pieces_of(4)[:4]),
            ((((0, 0), (1, 0)), 1), (((0, 0), (1, 0), (2, 0)), 2)),
        ]:
            self.assertIs(is_puzzle((FLOOR, box, True)), True, box)

    def test_boxes_beyond_their_limits(self):
        for box in [
            (),
            ((ONE, 0),),
            ((ONE, 9),),
            ((ONE, True),),
            ((ONE, 1), (TWO, 1), (THREE, 1), (BENT, 1), (SQUARE, 1)),
        ]:
            self.assertIs(is_puzzle((FLOOR, box, True)), False, box)
            self.bad_puzzle("box", floor_cells, (FLOOR, box, True))

    def test_kinds_with_a_common_form(self):
        for piece in [ONE, TWO, BENT, STEPS, HOOK]:
            for form in forms(piece, True):
                for is_flipped in [True, False]:
                    # What may be flipped in the puzzle does not matter here.
                    self.bad_puzzle("box", spare, (FLOOR, ((piece, 1), (SQUARE, 1), (form, 2)), is_flipped))
        for one, other in itertools.combinations(pieces_of(4), 2):
            self.assertIs(is_puzzle((FLOOR, ((one, 1), (other, 1)), False)), True)

    def test_true_and_false_alone_tell_of_flipping(self):
        self.assertIs(is_puzzle((FLOOR, BOX, True)), True)
        self.assertIs(is_puzzle((FLOOR, BOX, False)), True)
        self.assertIs(is_puzzle((FLOOR, BOX, 1)), False)
        self.assertIs(is_puzzle((FLOOR, BOX, 0)), False)


class FloorCellsTest(Case):
    def test_some_floors(self):
        self.assertEqual(floor_cells(PLAIN), ((0, 0), (0, 1), (1, 0), (1, 1)))
        self.assertEqual(floor_cells(HOLED), ((0, 0), (0, 1), (0, 2), (1, 0), (1, 2), (2, 0), (2, 1), (2, 2)))
        self.assertEqual(floor_cells((("---", "--#"), BOX, True)), ((1, 2),))
        self.assertEqual(floor_cells((("-#", "--", "#-"), BOX, True)), ((0, 1), (2, 0)))
        self.assertEqual(len(floor_cells(LARGE)), 16)
        self.assertEqual(floor_cells((("####",) * 4, BOX, True)), tuple(itertools.product(range(4), repeat=2)))


class SpareTest(Case):
    def test_above_at_and_below_0(self):
        self.assertEqual(spare(PLAIN), 0)
        self.assertEqual(spare(HOLED), 0)
        self.assertEqual(spare((FLOOR, ((TWO, 1),), False)), 2)
        self.assertEqual(spare((FLOOR, ((ONE, 3),), False)), 1)
        self.assertEqual(spare((FLOOR, ((TWO, 1), (THREE, 1)), False)), -1)
        self.assertEqual(spare((("#",), ((FIVE, 8), (HOOK, 8)), True)), -71)
        self.assertEqual(spare((("####",) * 4, ((ONE, 1),), True)), 15)
        self.assertEqual(spare(LARGE), 0)


class PlacementsTest(Case):
    def test_a_small_floor(self):
        wanted = (
            (0, ((0, 0), (0, 1))),
            (0, ((0, 0), (1, 0))),
            (0, ((0, 1), (1, 1))),
            (0, ((1, 0), (1, 1))),
        )
        self.assertEqual(placements(PLAIN), wanted)

    def test_a_floor_with_a_hole(self):
        kinds = [kind for kind, cells in placements(HOLED)]
        self.assertEqual(kinds, [0] * 4 + [1] * 8 + [2] * 4)
        self.assertEqual(placements(HOLED)[0], (0, ((0, 0), (0, 1), (0, 2))))
        self.assertEqual(placements(HOLED)[1], (0, ((0, 0), (1, 0), (2, 0))))

    def test_with_and_without_flipping(self):
        ones = tuple((1, (cell,)) for cell in floor_cells(STAIRS))
        falling = (0, ((0, 0), (0, 1), (1, 1), (1, 2)))
        rising = (0, ((0, 1), (0, 2), (1, 0), (1, 1)))
        self.assertEqual(placements(STAIRS), (falling,) + ones)
        self.assertEqual(placements(STAIRS_FLIPPED), (falling, rising) + ones)
        back = (("###", "###"), ((BACK_STEPS, 1), (ONE, 2)), False)
        self.assertEqual(placements(back), (rising,) + ones)

    def test_kinds_without_a_placement(self):
        self.assertEqual(placements(TOO_SMALL), tuple((1, (cell,)) for cell in floor_cells(TOO_SMALL)))
        self.assertEqual(placements((("##", "##"), ((THREE, 8),), True)), ())
        self.assertEqual(placements((("#-#", "-#-"), ((TWO, 1),), True)), ())
        self.assertEqual(placements((("#-#-#",), ((ONE, 1), (TWO, 1)), False))[-1], (0, ((0, 4),)))

    def test_all_as_by_search(self):
        for puzzle in PUZZLES:
            self.assertEqual(placements(puzzle), placements_by_search(puzzle))

    def test_all_pieces_on_one_floor(self):
        for many in range(1, 6):
            for piece in pieces_of(many):
                for is_flipped in [False, True]:
                    for form in [piece, forms(piece, True)[-1]]:
                        puzzle = (("-###", "####", "##-#", "#-##"), ((form, 1),), is_flipped)
                        self.assertEqual(placements(puzzle), placements_by_search(puzzle))

    def test_they_are_ascending_and_unlike(self):
        for puzzle in PUZZLES:
            found = placements(puzzle)
            self.assertIsInstance(found, tuple)
            self.assertEqual(list(found), sorted(set(found)))

    def test_equal_arguments_have_equal_answers(self):
        again = (tuple(["##"] * 2), tuple([(tuple([(0, 0), (0, 1)]), 2)]), False)
        self.assertEqual(placements(again), placements(PLAIN))
        self.assertEqual(placements(PLAIN), placements(PLAIN))


class CoveringTest(Case):
    def test_each_cell(self):
        for puzzle in PUZZLES:
            for cell in floor_cells(puzzle):
                wanted = tuple(one for one in placements_by_search(puzzle) if cell in one[1])
                self.assertEqual(covering(puzzle, cell), wanted)

    def test_a_small_floor(self):
        self.assertEqual(covering(PLAIN, (0, 0)), ((0, ((0, 0), (0, 1))), (0, ((0, 0), (1, 0)))))
        self.assertEqual(covering(PLAIN, (1, 1)), ((0, ((0, 1), (1, 1))), (0, ((1, 0), (1, 1)))))

    def test_a_cell_that_none_covers(self):
        self.assertEqual(covering((("##-#",), ((TWO, 1),), False), (0, 3)), ())

    def test_no_cells(self):
        for value in NO_CELLS_OF_PLAIN:
            with self.assertRaises(BadCell, msg=value):
                covering(PLAIN, value)

    def test_a_bare_sign(self):
        for puzzle, cell in [(HOLED, (1, 1)), (MIXED, (1, 3)), (LARGE, (0, 0)), (LARGE, (3, 4))]:
            with self.assertRaises(BadCell):
                covering(puzzle, cell)

    def test_the_puzzle_is_looked_at_first(self):
        for value, word in WRONG:
            self.bad_puzzle(word, covering, value, None)


class IsLayingTest(Case):
    def test_layings(self):
        self.assertIs(is_laying(PLAIN, FLAT), True)
        self.assertIs(is_laying(PLAIN, UPRIGHT), True)
        self.assertIs(is_laying((("#",), ((ONE, 1),), False), ((0, ((0, 0),)),)), True)
        mixed = (
            (0, ((0, 2), (0, 3), (1, 2))),
            (1, ((0, 0), (1, 0))),
            (2, ((0, 1),)),
            (2, ((1, 1),)),
        )
        self.assertIs(is_laying(MIXED, mixed), True)

    def test_no_layings(self):
        for value in NO_LAYINGS_OF_PLAIN:
            self.assertIs(is_laying(PLAIN, value), False, value)

    def test_too_many_or_too_few_of_a_kind(self):
        ones = tuple((1, (cell,)) for cell in floor_cells(PLAIN))
        twos = FLAT
        both = ((0, ((0, 0), (0, 1))), (1, ((1, 0),)), (1, ((1, 1),)))
        for numbers, right in [((2, 1), None), ((1, 2), both), ((1, 1), None), ((1, 3), None), ((2, 2), None)]:
            puzzle = (FLOOR, ((TWO, numbers[0]), (ONE, numbers[1])), True)
            for value in [ones, twos, both]:
                self.assertIs(is_laying(puzzle, value), value == right, (numbers, value))
        # The floor would be laid, but a piece stays in the box.
        self.assertIs(is_laying((FLOOR, ((TWO, 3),), False), FLAT), False)
        # The floor would be laid, but with a piece more than the box has.
        self.assertIs(is_laying((FLOOR, ((TWO, 1),), False), FLAT), False)

    def test_a_form_that_only_flipping_gives(self):
        laying = ((0, ((0, 1), (0, 2), (1, 0), (1, 1))), (1, ((0, 0),)), (1, ((1, 2),)))
        self.assertIs(is_laying(STAIRS_FLIPPED, laying), True)
        self.assertIs(is_laying(STAIRS, laying), False)

    def test_pieces_on_cells_that_are_none(self):
        value = (
            (0, ((0, 0), (0, 1), (0, 2))),
            (1, ((1, 0), (1, 1))),
            (2, ((1, 2), (2, 1), (2, 2))),
        )
        self.assertIs(is_laying(HOLED, value), False)

    def test_sets_of_placements_as_by_search(self):
        counts = []
        for puzzle in [PLAIN, HOLED, STAIRS, STAIRS_FLIPPED, TOO_SMALL]:
            right = layings_by_search(puzzle)
            many = sum(number for piece, number in puzzle[1])
            for size in [many - 1, many, many + 1]:
                for chosen in itertools.combinations(placements(puzzle), size):
                    self.assertIs(is_laying(puzzle, chosen), chosen in right)
            counts.append(len(right))
        self.assertEqual(counts, [2, 8, 1, 2, 0])

    def test_all_sequences_of_a_laying(self):
        (laying, *others) = layings_by_search(MIXED)
        for value in itertools.permutations(laying):
            self.assertIs(is_laying(MIXED, value), value == laying)

    def test_the_puzzle_is_looked_at_first(self):
        for value, word in WRONG:
            self.bad_puzzle(word, is_laying, value, None)


class ShownTest(Case):
    def test_layings(self):
        self.assertEqual(shown(PLAIN, FLAT), ("aa", "aa"))
        four = (("-####", "#-###", "##---"), ((ONE, 1), (TWO, 1), (BENT, 1), (SQUARE, 1)), False)
        laying = (
            (0, ((0, 1),)),
            (1, ((0, 2), (1, 2))),
            (2, ((1, 0), (2, 0), (2, 1))),
            (3, ((0, 3), (0, 4), (1, 3), (1, 4))),
        )
        self.assertEqual(shown(four, laying), ("-abdd", "c-bdd", "cc---"))

    def test_what_is_shown_tells_the_kind_on_each_cell(self):
        for puzzle in [PLAIN, HOLED, STAIRS_FLIPPED]:
            for laying in layings_by_search(puzzle):
                rows = shown(puzzle, laying)
                kinds = {cell: kind for kind, cells in laying for cell in cells}
                wanted = [
                    "".join("abcd"[kinds[r, c]] if (r, c) in kinds else "-" for c in range(len(row)))
                    for r, row in enumerate(puzzle[0])
                ]
                self.assertEqual(rows, tuple(wanted))

    def test_no_layings(self):
        for value in NO_LAYINGS_OF_PLAIN:
            self.bad_puzzle("laying", shown, PLAIN, value)

    def test_the_puzzle_is_looked_at_first(self):
        for value, word in WRONG:
            self.bad_puzzle(word, shown, value, None)


class ArgumentsTest(unittest.TestCase):
    def test_arguments_are_not_changed(self):
        puzzle = [["##", "##"], [[[(1, 0), (0, 0)], 2]], False]
        laying = [[0, [(1, 0), (0, 0)]], [0, [(1, 1), (0, 1)]]]
        kept = copy.deepcopy((puzzle, laying))
        self.assertIs(is_puzzle(puzzle), False)
        self.assertIs(is_puzzle(tuple(puzzle)), False)
        self.assertIs(is_puzzle((FLOOR, puzzle[1], False)), False)
        self.assertIs(is_puzzle((FLOOR, (tuple(puzzle[1][0]),), False)), False)
        self.assertIs(is_laying(PLAIN, laying), False)
        self.assertIs(is_laying(PLAIN, tuple(laying)), False)
        self.assertEqual((puzzle, laying), kept)


class ExampleTest(unittest.TestCase):
    def test_the_example_of_the_interface(self):
        puzzle = (("##", "##"), ((((0, 0), (0, 1)), 2),), False)
        flat = ((0, ((0, 0), (0, 1))), (0, ((1, 0), (1, 1))))
        told = [
            floor_cells(puzzle),
            spare(puzzle),
            len(placements(puzzle)),
            covering(puzzle, (1, 1)),
            is_laying(puzzle, flat),
            shown(puzzle, flat),
            is_puzzle((("##",), (), True)),
        ]
        wanted = [
            ((0, 0), (0, 1), (1, 0), (1, 1)),
            0,
            4,
            ((0, ((0, 1), (1, 1))), (0, ((1, 0), (1, 1)))),
            True,
            ("aa", "aa"),
            False,
        ]
        self.assertEqual(told, wanted)


if __name__ == "__main__":
    unittest.main()

"""Point 5, and forms_used of point 4: layings counted and listed, and what is common to them."""

import itertools
import unittest

from fitfloors.counting import (
    class_count,
    count_by_rows,
    first_laying,
    floor_turnings,
    forms_used,
    laying_count,
    layings,
    row_counts,
    sure_placements,
    uses,
)
from fitfloors.errors import TooMany
from fitfloors.puzzles import is_laying, placements
from samples import (
    BARE,
    BENT,
    BOTH_ONLY,
    FAR_MORE,
    FLAT,
    FOURS,
    GAPS,
    HOLED,
    HOOK,
    JUST_2000,
    JUST_2001,
    LAME,
    LARGE,
    MIXED,
    NO_LAYINGS_OF_PLAIN,
    ONE,
    PLAIN,
    SHARE_ONLY,
    SMALL,
    SPARE_ABOVE,
    SPARE_BELOW,
    SQUARE,
    STAIRS,
    STAIRS_FLIPPED,
    STEPS,
    THREE,
    TOO_SMALL,
    TWO,
    UPRIGHT,
    WHOLE_ONLY,
    WRONG,
    Case,
)
from searches import (
    classes_by_search,
    count_with_ones,
    layings_by_search,
    placements_by_search,
    set_home,
    ways_by_search,
)

WITHOUT_LAYING = [LAME, BARE, WHOLE_ONLY, SHARE_ONLY, BOTH_ONLY, SPARE_ABOVE, SPARE_BELOW, TOO_SMALL]
WITH_ONE = [GAPS, STAIRS, (("#",), ((ONE, 1),), True), (("-###", "--#-"), ((((0, 0), (0, 1), (0, 2), (1, 1)), 1),), False)]
WITH_FEW = [PLAIN, STAIRS_FLIPPED, HOLED, MIXED]
SQUARE_OF_TWOS = (("####",) * 4, ((TWO, 8),), False)
SQUARE_FLIPPED = (("####",) * 4, ((TWO, 8),), True)


class LayingCountTest(Case):
    def test_small_puzzles_as_by_search(self):
        for puzzle in SMALL + WITHOUT_LAYING + WITH_ONE + [PLAIN, STAIRS_FLIPPED, HOLED]:
            self.assertEqual(laying_count(puzzle), len(layings_by_search(puzzle)), puzzle)

    def test_no_one_and_few(self):
        self.assertEqual([laying_count(puzzle) for puzzle in WITHOUT_LAYING], [0] * 8)
        self.assertEqual([laying_count(puzzle) for puzzle in WITH_ONE], [1] * 4)
        self.assertEqual([laying_count(puzzle) for puzzle in WITH_FEW], [2, 2, 8, 21])

    def test_floors_laid_with_twos_alone(self):
        strips = [laying_count((("#" * many,) * 2, ((TWO, many),), False)) for many in range(1, 7)]
        self.assertEqual(strips, [1, 2, 3, 5, 8, 13])
        self.assertEqual(laying_count((("####",) * 3, ((TWO, 6),), False)), 11)
        self.assertEqual(laying_count((("###",) * 4, ((TWO, 6),), True)), 11)
        self.assertEqual(laying_count(SQUARE_OF_TWOS), 36)

    def test_twos_among_ones(self):
        counts = {4: 2593, 5: 3388, 6: 2150, 7: 552}
        for many, wanted in counts.items():
            self.assertEqual(laying_count((("####",) * 4, ((TWO, many), (ONE, 16 - 2 * many)), False)), wanted)

    def test_many_as_by_search(self):
        for puzzle in [JUST_2000, JUST_2001, FOURS]:
            self.assertEqual(laying_count(puzzle), count_with_ones(puzzle))
        self.assertEqual([laying_count(puzzle) for puzzle in [JUST_2000, JUST_2001, FOURS]], [2000, 2001, 2593])

    def test_pieces_that_are_all_the_same_are_not_told_apart(self):
        self.assertEqual(laying_count((("##", "##", "##", "##"), ((ONE, 8),), True)), 1)
        self.assertEqual(laying_count((("#-#-#-",) * 2, ((ONE, 2), (TWO, 2)), True)), 3)

    def test_a_piece_that_stays_in_the_box(self):
        # All cells could be covered, but not with all pieces.
        self.assertEqual(laying_count((("##", "##"), ((TWO, 3),), False)), 0)
        self.assertEqual(laying_count((("##", "##"), ((TWO, 2), (ONE, 1)), False)), 0)
        # All pieces could be laid, but not on all cells.
        self.assertEqual(laying_count((("##", "##"), ((TWO, 1),), False)), 0)

    def test_flipping(self):
        flat = (("###", "#--"), ((HOOK, 1),), False)
        back = (("###", "--#"), ((HOOK, 1),), False)
        self.assertEqual([laying_count(flat), laying_count(back)], [1, 0])
        self.assertEqual([laying_count(flat[:2] + (True,)), laying_count(back[:2] + (True,))], [1, 1])

    def test_kinds_of_the_same_size(self):
        # The sequence of the kinds changes the placements, not how many layings there are.
        box = ((STEPS, 1), (SQUARE, 1), (HOOK, 1), (TWO, 1))
        counts = {laying_count((("#####", "#####", "####-"), kinds, True)) for kinds in itertools.permutations(box)}
        self.assertEqual(len(counts), 1)
        self.assertGreater(counts.pop(), 0)


class LayingsTest(Case):
    def test_small_puzzles_as_by_search(self):
        for puzzle in SMALL + WITHOUT_LAYING + WITH_ONE + [PLAIN, STAIRS_FLIPPED, HOLED]:
            self.assertEqual(layings(puzzle), tuple(layings_by_search(puzzle)), puzzle)

    def test_larger_puzzles(self):
        for puzzle in [MIXED, LARGE, SQUARE_OF_TWOS, JUST_2000]:
            found = layings(puzzle)
            self.assertIsInstance(found, tuple)
            self.assertEqual(list(found), sorted(set(found)))
            self.assertEqual(len(found), laying_count(puzzle))
        for puzzle in [MIXED, LARGE, SQUARE_OF_TWOS]:
            self.assertTrue(all(is_laying(puzzle, laying) for laying in layings(puzzle)))

    def test_each_of_just_2000_is_one(self):
        known = set(placements_by_search(JUST_2000))
        for laying in layings(JUST_2000):
            self.assertEqual(list(laying), sorted(laying))
            self.assertTrue(known.issuperset(laying))
            self.assertEqual([kind for kind, cells in laying], [0, 1, 2, 2, 3, 3, 3, 3])
            self.assertEqual(len({cell for kind, cells in laying for cell in cells}), 15)

    def test_too_many(self):
        for puzzle in [JUST_2001, FOURS, FAR_MORE]:
            with self.assertRaises(TooMany) as caught:
                layings(puzzle)
            self.assertEqual(caught.exception.most, 2000)


class FirstLayingTest(Case):
    def test_there_is_one(self):
        for puzzle in WITH_ONE + WITH_FEW + [LARGE, SQUARE_OF_TWOS, JUST_2000, JUST_2001, FOURS, FAR_MORE]:
            self.assertTrue(is_laying(puzzle, first_laying(puzzle)), puzzle)

    def test_it_is_one_of_them(self):
        for puzzle in SMALL:
            if laying_count(puzzle) > 0:
                self.assertIn(first_laying(puzzle), layings_by_search(puzzle))

    def test_there_is_none(self):
        for puzzle in WITHOUT_LAYING + [puzzle for puzzle in SMALL if not layings_by_search(puzzle)]:
            self.assertIsNone(first_laying(puzzle), puzzle)


class UsesTest(Case):
    def test_small_puzzles_as_by_search(self):
        for puzzle in SMALL + WITHOUT_LAYING + WITH_ONE + [PLAIN, STAIRS_FLIPPED, HOLED]:
            listed = layings_by_search(puzzle)
            wanted = [(one, sum(one in laying for laying in listed)) for one in placements_by_search(puzzle)]
            self.assertEqual(uses(puzzle), tuple(wanted), puzzle)

    def test_listed_puzzles(self):
        for puzzle in [MIXED, LARGE, SQUARE_OF_TWOS]:
            listed = layings(puzzle)
            wanted = [(one, sum(one in laying for laying in listed)) for one in placements(puzzle)]
            self.assertEqual(uses(puzzle), tuple(wanted))

    def test_placements_that_no_laying_has(self):
        row = (("####",), ((TWO, 2),), False)
        wanted = (((0, ((0, 0), (0, 1))), 1), ((0, ((0, 1), (0, 2))), 0), ((0, ((0, 2), (0, 3))), 1))
        self.assertEqual(uses(row), wanted)
        self.assertEqual(uses(LAME), tuple((one, 0) for one in placements(LAME)))
        self.assertEqual(uses(TOO_SMALL), tuple((one, 0) for one in placements(TOO_SMALL)))
        self.assertEqual(uses(SPARE_ABOVE), tuple((one, 0) for one in placements(SPARE_ABOVE)))
        self.assertEqual(uses(BARE), ())

    def test_puzzles_that_are_not_listed(self):
        for puzzle in [JUST_2001, FOURS, FAR_MORE]:
            found = uses(puzzle)
            self.assertEqual(tuple(one for one, many in found), placements(puzzle))
            for kind, (piece, number) in enumerate(puzzle[1]):
                total = sum(many for one, many in found if one[0] == kind)
                self.assertEqual(total, number * laying_count(puzzle))
            for cell in {cell for (kind, cells), many in found for cell in cells}:
                total = sum(many for one, many in found if cell in one[1])
                self.assertEqual(total, laying_count(puzzle))

    def test_a_corner_of_many(self):
        # A two in the corner is left when the others lie on the rest of the floor.
        rest = (("--##",) + ("####",) * 3, ((TWO, 3), (ONE, 8)), False)
        self.assertEqual(uses(FOURS)[0], ((0, ((0, 0), (0, 1))), laying_count(rest)))


class SurePlacementsTest(Case):
    def test_small_puzzles_as_by_search(self):
        for puzzle in SMALL + WITHOUT_LAYING + WITH_ONE + [PLAIN, STAIRS_FLIPPED, HOLED]:
            listed = layings_by_search(puzzle)
            wanted = [one for one in placements_by_search(puzzle) if all(one in laying for laying in listed)]
            self.assertEqual(sure_placements(puzzle), tuple(wanted) if listed else ())

    def test_none_if_there_is_no_laying(self):
        for puzzle in WITHOUT_LAYING:
            self.assertEqual(sure_placements(puzzle), ())

    def test_all_if_there_is_one(self):
        for puzzle in WITH_ONE:
            self.assertEqual(sure_placements(puzzle), first_laying(puzzle))

    def test_some(self):
        puzzle = (("##-##", "##-#-"), ((TWO, 2), (BENT, 1)), False)
        self.assertEqual(laying_count(puzzle), 2)
        self.assertEqual(sure_placements(puzzle), ((1, ((0, 3), (0, 4), (1, 3))),))
        self.assertEqual(sure_placements(PLAIN), ())
        self.assertEqual(len(sure_placements(LARGE)), 3)
        self.assertEqual(sure_placements(FAR_MORE), ())


# Floors, with how many ways lead them to themselves: with flipping, and without.
SYMMETRIES = [
    # all eight
    (("#",), 8, 4),
    (("##", "##"), 8, 4),
    (("####",) * 4, 8, 4),
    (("-#-", "###", "-#-"), 8, 4),
    (("#-#", "---", "#-#"), 8, 4),
    (("###", "#-#", "###"), 8, 4),
    # quarters alone
    (("-#--", "---#", "#---", "--#-"), 4, 4),
    (("-#--", "-###", "###-", "--#-"), 4, 4),
    # halves and two flips, of rows and columns or across
    (("##",), 4, 2),
    (("#", "#"), 4, 2),
    (("###", "###"), 4, 2),
    (("#-#", "###", "#-#"), 4, 2),
    (("#--#",), 4, 2),
    (("#-", "-#"), 4, 2),
    (("##-", "###", "-##"), 4, 2),
    (("######", "######"), 4, 2),
    # halves alone
    (("##-", "-##"), 2, 2),
    (("#--", "###", "--#"), 2, 2),
    (("#---", "####", "---#"), 2, 2),
    # one flip alone, of rows, of columns or across
    (("###", "-#-"), 2, 1),
    (("#-", "##", "#-"), 2, 1),
    (("##", "#-"), 2, 1),
    (("-#", "##"), 2, 1),
    (("-##", "-##", "#--"), 2, 1),
    (("#-#", "###"), 2, 1),
    # none but the first
    (("###", "#--"), 1, 1),
    (("-##", "##-", "-#-"), 1, 1),
    (("#-##",), 2, 1),
    (("##-#", "---#"), 1, 1),
    (("######", "######", "####--"), 1, 1),
]


class FloorTurningsTest(Case):
    def test_every_kind_of_symmetry(self):
        for floor, flipped, turned in SYMMETRIES:
            self.assertEqual(floor_turnings((floor, ((TWO, 1),), True)), flipped, floor)
            self.assertEqual(floor_turnings((floor, ((TWO, 1),), False)), turned, floor)

    def test_empty_rows_and_columns_at_an_edge(self):
        for floor, flipped, turned in SYMMETRIES:
            if len(floor) > 4 or len(floor[0]) > 4:
                continue
            empty = "-" * len(floor[0])
            above = (empty, empty) + floor
            below = floor + (empty,)
            beside = tuple("--" + row for row in floor)
            behind = tuple("-" + row + "-" for row in floor)
            for wide in [above, below, beside, behind, ("-" + empty,) + tuple(row + "-" for row in floor)]:
                self.assertEqual(floor_turnings((wide, ((TWO, 1),), True)), flipped, wide)
                self.assertEqual(floor_turnings((wide, ((TWO, 1),), False)), turned, wide)

    def test_the_box_does_not_matter(self):
        for box in [((ONE, 4),), ((STEPS, 1),), ((HOOK, 8), (THREE, 2))]:
            self.assertEqual(floor_turnings((("##", "##"), box, True)), 8)
            self.assertEqual(floor_turnings((("##", "##"), box, False)), 4)

    def test_as_by_search(self):
        found = []
        for floor, box, is_flipped in SMALL:
            for told in [True, False]:
                puzzle = (floor, box, told)
                self.assertEqual(floor_turnings(puzzle), len(ways_by_search(puzzle)), puzzle)
                found.append(floor_turnings(puzzle))
        self.assertEqual(set(found), {1, 2, 4, 8})


class ClassCountTest(Case):
    def test_layings_led_to_one_another(self):
        self.assertEqual(class_count(PLAIN), 1)
        self.assertEqual(class_count(STAIRS_FLIPPED), 1)
        self.assertEqual(class_count((("###",), ((ONE, 1), (TWO, 1)), False)), 1)
        self.assertEqual(class_count((("##", "#-"), ((TWO, 1), (ONE, 1)), True)), 1)

    def test_layings_led_to_none_but_themselves(self):
        self.assertEqual(class_count(STAIRS), 1)
        self.assertEqual(class_count((("##", "##"), ((ONE, 4),), True)), 1)
        # One is led to itself, and two to one another.
        self.assertEqual(class_count((("##", "##", "##"), ((TWO, 3),), False)), 2)
        self.assertEqual(class_count((("##", "##", "##"), ((TWO, 3),), True)), 2)
        # The flip across would lead one to the other.
        self.assertEqual(class_count((("##", "#-"), ((TWO, 1), (ONE, 1)), False)), 2)

    def test_the_kinds_are_told_apart(self):
        self.assertEqual(laying_count((("##-##",), ((TWO, 1), (ONE, 2)), False)), 2)
        self.assertEqual(class_count((("##-##",), ((TWO, 1), (ONE, 2)), False)), 1)
        self.assertEqual(class_count((("###", "-#-"), ((TWO, 1), (ONE, 2)), True)), 2)

    def test_a_square_of_twos(self):
        self.assertEqual(class_count(SQUARE_FLIPPED), 9)
        self.assertEqual(class_count(SQUARE_OF_TWOS), len(classes_by_search(SQUARE_OF_TWOS, layings(SQUARE_OF_TWOS))))

    def test_floors_at_an_edge(self):
        self.assertEqual(class_count((("---", "-##", "-##"), ((TWO, 2),), False)), 1)
        self.assertEqual(class_count((("----",) + ("-###",) * 2, ((STEPS, 1), (ONE, 2)), True)), 1)

    def test_as_by_search(self):
        for puzzle in SMALL + WITHOUT_LAYING + WITH_ONE + WITH_FEW + [LARGE]:
            self.assertEqual(class_count(puzzle), len(classes_by_search(puzzle, layings(puzzle))), puzzle)

    def test_none_if_there_is_no_laying(self):
        self.assertEqual([class_count(puzzle) for puzzle in WITHOUT_LAYING], [0] * 8)

    def test_just_2000_and_too_many(self):
        self.assertEqual(class_count(JUST_2000), 2000)
        for puzzle in [JUST_2001, FOURS, FAR_MORE]:
            with self.assertRaises(TooMany) as caught:
                class_count(puzzle)
            self.assertEqual(caught.exception.most, 2000)


class FormsUsedTest(Case):
    def test_some_layings(self):
        self.assertEqual(forms_used(PLAIN, FLAT), ((TWO,),))
        self.assertEqual(forms_used(PLAIN, UPRIGHT), ((((0, 0), (1, 0)),),))

    def test_forms_that_come_twice(self):
        puzzle = (("####", "####"), ((TWO, 2), (ONE, 4)), False)
        laying = (
            (0, ((0, 0), (0, 1))),
            (0, ((1, 2), (1, 3))),
            (1, ((0, 2),)),
            (1, ((0, 3),)),
            (1, ((1, 0),)),
            (1, ((1, 1),)),
        )
        self.assertEqual(forms_used(puzzle, laying), ((TWO,), (ONE,)))

    def test_unlike_forms_ascend(self):
        puzzle = (("###", "##-"), ((TWO, 2), (ONE, 1)), False)
        upright = ((0, 0), (1, 0))
        laying = ((0, ((0, 0), (1, 0))), (0, ((0, 1), (0, 2))), (1, ((1, 1),)))
        self.assertEqual(forms_used(puzzle, laying), ((TWO, upright), (ONE,)))

    def test_as_by_search(self):
        for puzzle in SMALL + WITH_FEW + [LARGE]:
            for laying in layings(puzzle):
                wanted = []
                for kind in range(len(puzzle[1])):
                    found = {set_home(cells) for other, cells in laying if other == kind}
                    wanted.append(tuple(sorted(found)))
                self.assertEqual(forms_used(puzzle, laying), tuple(wanted))

    def test_no_layings(self):
        for value in NO_LAYINGS_OF_PLAIN:
            self.bad_puzzle("laying", forms_used, PLAIN, value)
        for puzzle in WITHOUT_LAYING:
            self.bad_puzzle("laying", forms_used, puzzle, None)

    def test_the_puzzle_is_looked_at_first(self):
        for value, word in WRONG:
            self.bad_puzzle(word, forms_used, value, None)
            self.bad_puzzle(word, forms_used, value, FLAT)


class ArgumentsTest(Case):
    def test_wrong_puzzles(self):
        for value, word in WRONG:
            for call in [laying_count, layings, first_laying, uses, sure_placements, floor_turnings, class_count]:
                self.bad_puzzle(word, call, value)

    def test_equal_arguments_have_equal_answers(self):
        again = (tuple(["##"] * 2), tuple([(tuple([(0, 0), (0, 1)]), 2)]), False)
        for call in [laying_count, layings, uses, sure_placements, floor_turnings, class_count]:
            self.assertEqual(call(again), call(PLAIN))
            self.assertEqual(call(PLAIN), call(PLAIN))


class ExampleTest(unittest.TestCase):
    def test_the_example_of_the_interface(self):
        puzzle = (("##", "##"), ((((0, 0), (0, 1)), 2),), False)
        told = [
            laying_count(puzzle),
            layings(puzzle)[0],
            class_count(puzzle),
            floor_turnings(puzzle),
            count_by_rows(puzzle),
            row_counts(puzzle),
            sure_placements(puzzle),
            uses(puzzle)[0],
            forms_used(puzzle, layings(puzzle)[1]),
        ]
        wanted = [
            2,
            ((0, ((0, 0), (0, 1))), (0, ((1, 0), (1, 1)))),
            1,
            4,
            2,
            (2, 1),
            (),
            ((0, ((0, 0), (0, 1))), 1),
            ((((0, 0), (1, 0)),),),
        ]
        self.assertEqual(told, wanted)


if __name__ == "__main__":
    unittest.main()

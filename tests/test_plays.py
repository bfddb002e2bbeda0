"""Point 11: plays."""

import random
import unittest

from checks import left_behind
from fitfloors.counting import layings
from fitfloors.errors import BadCell, BadPlacement, NothingBack
from fitfloors.plays import Play
from samples import (
    BARE,
    BOTH_ONLY,
    CORNERED,
    FLAT,
    GAPS,
    HOLED,
    LAME,
    LARGE,
    MIXED,
    NO_CELLS_OF_PLAIN,
    NO_LAYINGS_OF_PLAIN,
    ONE,
    PLAIN,
    SHARE_ONLY,
    SMALL,
    SPARE_ABOVE,
    SPARE_BELOW,
    STAIRS_FLIPPED,
    THREE,
    TWO,
    UPRIGHT,
    WRONG,
    Case,
)

NO_PLACEMENTS = [
    None,
    0,
    True,
    "",
    "a",
    b"",
    (),
    [],
    {},
    set(),
    (0,),
    FLAT,
    (FLAT[0],),
    list(FLAT[0]),
    (0, [(0, 0), (0, 1)]),
    (0, ([0, 0], [0, 1])),
    (0, ((0, 1), (0, 0))),
    (0, ((0, 0),)),
    (0, ((0, 0), (1, 1))),
    (0, ((0, 0), (0, 1), (1, 0))),
    (0, ((0, 1), (0, 2))),
    (0, ((-1, 0), (0, 0))),
    (0, ()),
    (0, None),
    (0, 1),
    (1, ((0, 0), (0, 1))),
    (-1, ((0, 0), (0, 1))),
    (10**20, ((0, 0), (0, 1))),
    (False, ((0, 0), (0, 1))),
    (0, ((False, 0), (0, 1))),
    (0, ((0, 0), (0, True))),
    (0.0, ((0, 0), (0, 1))),
    (0, ((0, 0), (0, 1.0))),
    (None, ((0, 0), (0, 1))),
    ("0", ((0, 0), (0, 1))),
    (0, ((0, 0), (0, 1)), 0),
    (((0, 0), (0, 1)), 0),
]


class Model:
    """A play that goes through all layings for each answer."""

    def __init__(self, puzzle, listed):
        self.puzzle, self.listed, self.lain = puzzle, listed, []

    def answers(self):
        bare, numbers, fitting = left_behind(self.puzzle, self.lain)
        going = [laying for laying in self.listed if set(self.lain) <= set(laying)]
        rows = [list(row) for row in self.puzzle[0]]
        for kind, cells in self.lain:
            for row, column in cells:
                rows[row][column] = "abcd"[kind]
        return {
            "lain": tuple(self.lain),
            "left": (tuple(bare), tuple(numbers)),
            "fitting": tuple(fitting),
            "count": len(going),
            "is_done": not bare and not any(numbers),
            "hints": tuple(one for one in fitting if any(one in laying for laying in going)),
            "forced": tuple(one for one in fitting if going and all(one in laying for laying in going)),
            "rows": tuple("".join(row) for row in rows),
        }


def told(play):
    """All that a play tells of itself."""
    return {
        "lain": play.lain(),
        "left": play.left(),
        "fitting": play.fitting(),
        "count": play.count(),
        "is_done": play.is_done(),
        "hints": play.hints(),
        "forced": play.forced(),
        "rows": play.rows(),
    }


class PlayCase(Case):
    def unchanged(self, error, play, call, *arguments):
        before = told(play)
        with self.assertRaises(error, msg=arguments) as caught:
            call(*arguments)
        self.assertIs(type(caught.exception), error)
        self.assertEqual(told(play), before)

    def agree(self, play, model):
        given = told(play)
        self.assertEqual(given, model.answers())
        self.assertIs(type(given["is_done"]), bool)
        self.assertIs(type(given["count"]), int)


class StartTest(PlayCase):
    def test_the_bare_floor(self):
        play = Play(PLAIN)
        self.assertEqual(play.lain(), ())
        self.assertEqual(play.left(), (((0, 0), (0, 1), (1, 0), (1, 1)), (2,)))
        self.assertEqual(play.fitting(), tuple(sorted(FLAT + UPRIGHT)))
        self.assertEqual(play.count(), 2)
        self.assertIs(play.is_done(), False)
        self.assertEqual(play.hints(), tuple(sorted(FLAT + UPRIGHT)))
        self.assertEqual(play.forced(), ())
        self.assertEqual(play.rows(), ("##", "##"))

    def test_many_puzzles(self):
        for puzzle in [HOLED, MIXED, LARGE, GAPS, LAME, BARE, BOTH_ONLY, SPARE_ABOVE, SPARE_BELOW] + SMALL[:20]:
            self.agree(Play(puzzle), Model(puzzle, layings(puzzle)))

    def test_wrong_puzzles(self):
        for value, word in WRONG:
            self.bad_puzzle(word, Play, value)

    def test_plays_of_equal_puzzles_are_apart(self):
        play, other = Play(PLAIN), Play(PLAIN)
        play.lay(FLAT[0])
        self.assertEqual((play.lain(), other.lain()), ((FLAT[0],), ()))
        other.lay(UPRIGHT[1])
        self.assertEqual((play.lain(), other.lain()), ((FLAT[0],), (UPRIGHT[1],)))


class LayTest(PlayCase):
    def test_to_the_end(self):
        play = Play(PLAIN)
        self.assertIsNone(play.lay(FLAT[1]))
        self.assertEqual(play.lain(), (FLAT[1],))
        self.assertEqual(play.left(), (((0, 0), (0, 1)), (1,)))
        self.assertEqual(play.fitting(), (FLAT[0],))
        self.assertEqual(play.count(), 1)
        self.assertIs(play.is_done(), False)
        self.assertEqual(play.hints(), (FLAT[0],))
        self.assertEqual(play.forced(), (FLAT[0],))
        self.assertEqual(play.rows(), ("##", "aa"))
        self.assertIsNone(play.lay(FLAT[0]))
        self.assertEqual(play.lain(), (FLAT[1], FLAT[0]))
        self.assertEqual(play.left(), ((), (0,)))
        self.assertEqual(play.fitting(), ())
        self.assertEqual(play.count(), 1)
        self.assertIs(play.is_done(), True)
        self.assertEqual(play.hints(), ())
        self.assertEqual(play.forced(), ())
        self.assertEqual(play.rows(), ("aa", "aa"))

    def test_no_placements(self):
        play = Play(PLAIN)
        for value in NO_PLACEMENTS + [value for value in NO_LAYINGS_OF_PLAIN if value != FLAT[0]]:
            self.unchanged(BadPlacement, play, play.lay, value)
        play.lay(UPRIGHT[0])
        for value in NO_PLACEMENTS + [value for value in NO_LAYINGS_OF_PLAIN if value != FLAT[0]]:
            self.unchanged(BadPlacement, play, play.lay, value)

    def test_placements_that_do_not_fit(self):
        play = Play(PLAIN)
        play.lay(FLAT[0])
        for placement in [FLAT[0], UPRIGHT[0], UPRIGHT[1]]:
            self.unchanged(BadPlacement, play, play.lay, placement)
        play.lay(FLAT[1])
        for placement in FLAT + UPRIGHT:
            self.unchanged(BadPlacement, play, play.lay, placement)

    def test_no_piece_of_the_kind_is_left(self):
        puzzle = (("####",), ((TWO, 1), (ONE, 2)), False)
        play = Play(puzzle)
        play.lay((0, ((0, 0), (0, 1))))
        self.unchanged(BadPlacement, play, play.lay, (0, ((0, 2), (0, 3))))
        self.assertEqual(play.fitting(), ((1, ((0, 2),)), (1, ((0, 3),))))
        play.lay((1, ((0, 3),)))
        play.lay((1, ((0, 2),)))
        self.assertIs(play.is_done(), True)
        self.assertEqual(play.rows(), ("aabb",))

    def test_wrong_ways_are_laid_too(self):
        play = Play(BOTH_ONLY)
        while play.fitting():
            self.assertEqual((play.count(), play.hints(), play.forced()), (0, (), ()))
            play.lay(play.fitting()[-1])
        self.assertIs(play.is_done(), False)
        self.assertNotEqual(play.lain(), ())

    def test_pieces_that_stay_in_the_box(self):
        # All cells are covered, but not all pieces are used: the floor is not laid.
        play = Play((("##",), ((TWO, 2),), False))
        play.lay((0, ((0, 0), (0, 1))))
        self.assertEqual(play.left(), ((), (1,)))
        self.assertIs(play.is_done(), False)
        self.assertEqual(play.count(), 0)
        # All pieces are used, but not all cells are covered.
        play = Play((("###",), ((TWO, 1),), False))
        play.lay((0, ((0, 0), (0, 1))))
        self.assertEqual(play.left(), (((0, 2),), (0,)))
        self.assertIs(play.is_done(), False)
        self.assertEqual(play.count(), 0)


class LiftTest(PlayCase):
    def test_by_each_of_its_cells(self):
        for placement in FLAT + UPRIGHT:
            for cell in placement[1]:
                play = Play(PLAIN)
                play.lay(placement)
                self.assertEqual(play.lift(cell), placement)
                self.assertEqual(told(play), told(Play(PLAIN)))

    def test_from_among_others(self):
        play = Play(MIXED)
        laying = layings(MIXED)[0]
        for placement in laying:
            play.lay(placement)
        self.assertIs(play.is_done(), True)
        self.assertEqual(play.lift(laying[1][1][0]), laying[1])
        self.assertEqual(play.lain(), laying[:1] + laying[2:])
        play.lay(laying[1])
        self.assertEqual(play.lain(), laying[:1] + laying[2:] + laying[1:2])
        self.assertEqual(play.undo(), laying[1])
        self.assertEqual(play.undo(), laying[-1])

    def test_bare_cells(self):
        play = Play(PLAIN)
        for cell in [(0, 0), (0, 1), (1, 0), (1, 1)]:
            self.unchanged(BadPlacement, play, play.lift, cell)
        play.lay(FLAT[0])
        self.unchanged(BadPlacement, play, play.lift, (1, 0))
        self.unchanged(BadPlacement, play, play.lift, (1, 1))
        play.lift((0, 1))
        self.unchanged(BadPlacement, play, play.lift, (0, 1))

    def test_no_cells(self):
        play = Play(PLAIN)
        for value in NO_CELLS_OF_PLAIN:
            self.unchanged(BadCell, play, play.lift, value)
        play.lay(FLAT[0])
        play.lay(FLAT[1])
        for value in NO_CELLS_OF_PLAIN:
            self.unchanged(BadCell, play, play.lift, value)
        play = Play(HOLED)
        self.unchanged(BadCell, play, play.lift, (1, 1))
        self.unchanged(BadPlacement, play, play.lift, (1, 0))


class UndoTest(PlayCase):
    def test_back_to_the_start(self):
        play = Play(LARGE)
        laying = layings(LARGE)[0]
        seen = []
        for placement in laying[::-1]:
            seen.append(told(play))
            play.lay(placement)
        for placement in laying:
            self.assertEqual(play.undo(), placement)
            self.assertEqual(told(play), seen.pop())

    def test_nothing_back(self):
        play = Play(PLAIN)
        self.unchanged(NothingBack, play, play.undo)
        play.lay(FLAT[0])
        play.undo()
        self.unchanged(NothingBack, play, play.undo)
        play.lay(FLAT[0])
        play.lift((0, 0))
        self.unchanged(NothingBack, play, play.undo)

    def test_the_last_of_those_that_lie(self):
        play = Play((("###",), ((ONE, 3),), False))
        first, second, third = [(0, ((0, column),)) for column in (0, 1, 2)]
        for placement in [second, third, first]:
            play.lay(placement)
        self.assertEqual(play.lift((0, 0)), first)
        self.assertEqual(play.undo(), third)
        self.assertEqual(play.lain(), (second,))


class AnswersTest(PlayCase):
    def test_forced_are_those_that_fit(self):
        # Both lie in the one laying; what lies is not forced any more.
        puzzle = (("###", "#--"), ((THREE, 1), (ONE, 1)), False)
        play = Play(puzzle)
        self.assertEqual(play.forced(), ((0, ((0, 0), (0, 1), (0, 2))), (1, ((1, 0),))))
        self.assertEqual(play.hints(), play.forced())
        play.lay((1, ((1, 0),)))
        self.assertEqual(play.forced(), ((0, ((0, 0), (0, 1), (0, 2))),))

    def test_no_forced_ones_where_there_are_no_layings(self):
        play = Play(BARE)
        self.assertEqual((play.forced(), play.hints(), play.count()), ((), (), 0))
        play = Play((("###", "#--"), ((THREE, 1), (ONE, 1)), False))
        play.lay((1, ((0, 0),)))
        self.assertEqual((play.forced(), play.hints(), play.count()), ((), (), 0))
        self.assertEqual(play.fitting(), ())
        play = Play(SHARE_ONLY)
        self.assertEqual((play.forced(), play.hints(), play.count()), ((), (), 0))
        self.assertNotEqual(play.fitting(), ())

    def test_what_is_told_is_not_held(self):
        play = Play(PLAIN)
        play.lay(FLAT[0])
        before = told(play)
        kept = play.lain(), play.left(), play.rows()
        play.lay(FLAT[1])
        self.assertEqual(kept, (before["lain"], before["left"], before["rows"]))

    def test_letters(self):
        puzzle = (("-##-", "####", "###-"), ((ONE, 2), (TWO, 1), (THREE, 1), (((0, 0), (0, 1), (1, 0)), 1)), True)
        play = Play(puzzle)
        self.assertEqual(play.rows(), ("-##-", "####", "###-"))
        play.lay((3, ((1, 0), (2, 0), (2, 1))))
        play.lay((2, ((1, 1), (1, 2), (1, 3))))
        play.lay((0, ((0, 2),)))
        self.assertEqual(play.rows(), ("-#a-", "dccc", "dd#-"))


class RowsOfCallsTest(PlayCase):
    def random_call(self, chance, play, model):
        """Call one method, right or wrong, of the play, and do the same to the model."""
        bare, numbers, fitting = left_behind(model.puzzle, model.lain)
        choice = chance.randrange(8)
        if choice < 4 and fitting:
            placement = chance.choice(fitting)
            self.assertIsNone(play.lay(placement))
            model.lain.append(placement)
        elif choice == 4 and model.lain:
            placement = chance.choice(model.lain)
            self.assertEqual(play.lift(chance.choice(placement[1])), placement)
            model.lain.remove(placement)
        elif choice == 5 and model.lain:
            self.assertEqual(play.undo(), model.lain.pop())
        elif choice == 5:
            self.unchanged(NothingBack, play, play.undo)
        elif choice == 6:
            wrong = [one for one in left_behind(model.puzzle, [])[2] if one not in fitting]
            self.unchanged(BadPlacement, play, play.lay, chance.choice(wrong + NO_PLACEMENTS[:10]))
        elif bare:
            self.unchanged(BadPlacement, play, play.lift, chance.choice(bare))
        else:
            self.unchanged(BadCell, play, play.lift, chance.choice([(9, 9), (-1, 0), None, True, [0, 0], (0, 0, 0)]))

    def test_long_rows_of_calls(self):
        chance = random.Random(11)
        puzzles = [PLAIN, HOLED, MIXED, STAIRS_FLIPPED, GAPS, BOTH_ONLY, CORNERED, LAME, SPARE_ABOVE, SPARE_BELOW]
        done = 0
        for puzzle in puzzles + SMALL[:15]:
            play, model = Play(puzzle), Model(puzzle, layings(puzzle))
            for _ in range(60):
                self.random_call(chance, play, model)
                self.agree(play, model)
                done += play.is_done()
        self.assertGreater(done, 10)

    def test_hints_lead_to_a_laying(self):
        chance = random.Random(12)
        for puzzle in [HOLED, MIXED, LARGE, STAIRS_FLIPPED, GAPS]:
            for _ in range(3):
                play, model = Play(puzzle), Model(puzzle, layings(puzzle))
                while play.hints():
                    placement = chance.choice(play.hints())
                    play.lay(placement)
                    model.lain.append(placement)
                    self.agree(play, model)
                self.assertIs(play.is_done(), True)
                self.assertEqual(play.count(), 1)
                self.assertIn(tuple(sorted(play.lain())), layings(puzzle))


class ExampleTest(unittest.TestCase):
    def test_the_example_of_the_interface(self):
        play = Play((("##", "##"), ((((0, 0), (0, 1)), 2),), False))
        self.assertIsNone(play.lay((0, ((1, 0), (1, 1)))))
        given = [
            play.hints(),
            play.forced(),
            play.count(),
            play.rows(),
            play.left(),
            play.lift((1, 0)),
            play.count(),
            play.lain(),
            play.is_done(),
        ]
        wanted = [
            ((0, ((0, 0), (0, 1))),),
            ((0, ((0, 0), (0, 1))),),
            1,
            ("##", "aa"),
            (((0, 0), (0, 1)), (1,)),
            (0, ((1, 0), (1, 1))),
            2,
            (),
            False,
        ]
        self.assertEqual(given, wanted)


if __name__ == "__main__":
    unittest.main()

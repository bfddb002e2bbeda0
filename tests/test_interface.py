"""The interface, and what point 1 says of the whole program."""

import importlib
import inspect
import itertools
import unittest

from fitfloors import counting, papers, pieces, plays, puzzles, shares, stripes, texts, wholes
from fitfloors.errors import BadCell, BadPiece, BadPuzzle
from samples import (
    CASES,
    FLAT,
    FOURS,
    LAME,
    LARGE,
    NO_SHARES,
    ONE,
    PLAIN,
    PUZZLES,
    SHARE_ONLY,
    SMALL,
    THREE,
    TOO_SMALL,
    TWO,
    WHOLE_ONLY,
    WRONG,
    Case,
)

PARAMETERS = {
    "pieces": {
        "is_piece": ["value"],
        "turned": ["piece"],
        "flipped": ["piece"],
        "forms": ["piece", "is_flipped"],
        "least_form": ["piece"],
        "pieces_of": ["many"],
        "drawn": ["piece"],
    },
    "puzzles": {
        "is_puzzle": ["value"],
        "is_laying": ["puzzle", "value"],
        "floor_cells": ["puzzle"],
        "spare": ["puzzle"],
        "placements": ["puzzle"],
        "covering": ["puzzle", "cell"],
        "shown": ["puzzle", "laying"],
    },
    "counting": {
        "laying_count": ["puzzle"],
        "class_count": ["puzzle"],
        "floor_turnings": ["puzzle"],
        "count_by_rows": ["puzzle"],
        "layings": ["puzzle"],
        "first_laying": ["puzzle"],
        "uses": ["puzzle"],
        "sure_placements": ["puzzle"],
        "row_counts": ["puzzle"],
        "forms_used": ["puzzle", "laying"],
    },
    "wholes": {"whole_sum": ["puzzle"], "shows_whole_sum": ["puzzle", "value"], "steps_between": ["puzzle"]},
    "shares": {"share_sum": ["puzzle"], "shows_share_sum": ["puzzle", "value"]},
    "papers": {
        "never_paper": ["puzzle"],
        "shows_never": ["puzzle", "value"],
        "why": ["puzzle"],
        "paper_size": ["puzzle", "paper"],
    },
    "stripes": {
        "stripes": ["puzzle", "many"],
        "fewest_colours": ["puzzle"],
        "stripe_paper": ["puzzle", "many", "a", "b"],
        "coloured": ["puzzle", "many", "a", "b"],
    },
    "plays": {"Play": ["puzzle"]},
    "texts": {"written": ["puzzle"], "read_puzzle": ["text"]},
}

PLAY_METHODS = {
    "lay": ["placement"],
    "lift": ["cell"],
    "undo": [],
    "lain": [],
    "left": [],
    "fitting": [],
    "count": [],
    "is_done": [],
    "hints": [],
    "forced": [],
    "rows": [],
}

# What comes behind the puzzle: right for the plain puzzle, and wrong.
OF_PUZZLES = [
    (puzzles.is_laying, [(FLAT,), (None,)]),
    (puzzles.floor_cells, [()]),
    (puzzles.spare, [()]),
    (puzzles.placements, [()]),
    (puzzles.covering, [((0, 0),), (None,), ((9, 9),)]),
    (puzzles.shown, [(FLAT,), (None,)]),
    (counting.laying_count, [()]),
    (counting.class_count, [()]),
    (counting.floor_turnings, [()]),
    (counting.count_by_rows, [()]),
    (counting.layings, [()]),
    (counting.first_laying, [()]),
    (counting.uses, [()]),
    (counting.sure_placements, [()]),
    (counting.row_counts, [()]),
    (counting.forms_used, [(FLAT,), (None,)]),
    (wholes.whole_sum, [()]),
    (wholes.shows_whole_sum, [(None,), ((),)]),
    (wholes.steps_between, [()]),
    (shares.share_sum, [()]),
    (shares.shows_share_sum, [(None,), ((),)]),
    (papers.never_paper, [()]),
    (papers.shows_never, [(None,), (("cases", (0, 0), ()),)]),
    (papers.why, [()]),
    (papers.paper_size, [(None,), (("cases", (0, 0), ()),)]),
    (stripes.stripes, [(2,), (9,), (None,)]),
    (stripes.fewest_colours, [()]),
    (stripes.stripe_paper, [(2, 1, 1), (9, 1, 1), (2, None, 1), (2, 1, None)]),
    (stripes.coloured, [(2, 1, 1), (9, 1, 1), (2, None, 1), (2, 1, None)]),
    (plays.Play, [()]),
    (texts.written, [()]),
]


class InterfaceTest(Case):
    def test_each_name_is_defined_in_its_file(self):
        for module, names in PARAMETERS.items():
            found = importlib.import_module("fitfloors." + module)
            for name, parameters in names.items():
                value = vars(found)[name]
                self.assertEqual(value.__module__, "fitfloors." + module)
                self.assertEqual(list(inspect.signature(value).parameters), parameters, name)

    def test_each_method_is_defined_in_its_class(self):
        for name, parameters in PLAY_METHODS.items():
            method = vars(plays.Play)[name]
            self.assertEqual(list(inspect.signature(method).parameters)[1:], parameters, name)

    def test_each_function_of_a_puzzle_is_looked_at_below(self):
        named = [names for module, names in PARAMETERS.items()]
        wanted = [name for names in named for name in names if names[name][0] == "puzzle"]
        self.assertEqual(sorted(call.__name__ for call, rests in OF_PUZZLES), sorted(wanted))


class WrongPuzzleTest(Case):
    def test_the_word_for_what_is_wrong_first(self):
        for value, word in WRONG:
            for call, rests in OF_PUZZLES:
                for rest in rests:
                    self.bad_puzzle(word, call, value, *rest)

    def test_whatever_else_is_wrong_comes_after(self):
        for wrong in [1, 9, True, None]:
            self.bad_puzzle("colours", stripes.stripes, PLAIN, wrong)
        for wrong in [None, [0, 0], (9, 9), True]:
            with self.assertRaises(BadCell):
                puzzles.covering(PLAIN, wrong)
        for call in [puzzles.shown, counting.forms_used]:
            self.bad_puzzle("laying", call, PLAIN, None)


class ArgumentsTest(Case):
    def test_lists_are_neither_taken_nor_changed(self):
        def listed(value):
            return [listed(part) for part in value] if isinstance(value, tuple) else value

        for puzzle in [PLAIN, LAME, LARGE]:
            for call, rests in OF_PUZZLES:
                value = listed(puzzle)
                for one in [value, tuple(value), (puzzle[0], value[1], puzzle[2]), (value[0], puzzle[1], puzzle[2])]:
                    with self.assertRaises(BadPuzzle):
                        call(one, *rests[0])
                self.assertEqual(value, listed(puzzle))
        piece = [[0, 0], [0, 1]]
        for call in [pieces.turned, pieces.flipped, pieces.least_form, pieces.drawn]:
            with self.assertRaises(BadPiece):
                call(piece)
        self.assertEqual(piece, [[0, 0], [0, 1]])

    def test_equal_arguments_have_equal_answers(self):
        anys = [counting.first_laying, wholes.whole_sum, shares.share_sum, papers.never_paper, plays.Play]
        for puzzle in PUZZLES + [LAME, SHARE_ONLY, WHOLE_ONLY]:
            again = (tuple(list(puzzle[0])), tuple((tuple(list(piece)), many) for piece, many in puzzle[1]), puzzle[2])
            for call, rests in OF_PUZZLES:
                # What is right for the plain puzzle may be wrong for another.
                if call not in anys and call not in [puzzles.shown, puzzles.covering, counting.forms_used]:
                    self.assertEqual(call(again, *rests[0]), call(puzzle, *rests[0]), call)

    def test_answers_do_not_depend_on_what_was_asked_before(self):
        calls = [(call, rests[0]) for call, rests in OF_PUZZLES if call is not plays.Play]
        first = [call(PLAIN, *rest) for call, rest in calls]
        for other in [LAME, SHARE_ONLY, TOO_SMALL]:
            papers.never_paper(other)
            stripes.fewest_colours(other)
            texts.written(other)
        self.assertEqual([call(PLAIN, *rest) for call, rest in calls], first)


class WholeProgramTest(Case):
    """A laying, or a paper by which there is none: the answers of all modules agree."""

    def agree(self, puzzle):
        laying, paper = counting.first_laying(puzzle), papers.never_paper(puzzle)
        many = counting.laying_count(puzzle)
        self.assertEqual((laying is None, paper is None), (many == 0, many > 0))
        self.assertEqual(counting.count_by_rows(puzzle), many)
        self.assertEqual(plays.Play(puzzle).count(), many)
        self.assertIs(papers.shows_never(puzzle, paper), many == 0)
        self.assertEqual(papers.why(puzzle) is None, many > 0)
        if many:
            self.assertIs(puzzles.is_laying(puzzle, laying), True)
            self.assertIs(shares.shows_share_sum(puzzle, None), False)
            self.assertIs(wholes.shows_whole_sum(puzzle, None), False)
        self.assertEqual(wholes.whole_sum(puzzle) is None, papers.why(puzzle) == "whole")
        if stripes.fewest_colours(puzzle) is not None:
            self.assertEqual(papers.why(puzzle), "whole")
        self.assertEqual(texts.read_puzzle(texts.written(puzzle)), puzzle)

    def test_samples(self):
        for puzzle in PUZZLES + SMALL + CASES + [LAME, NO_SHARES, SHARE_ONLY, WHOLE_ONLY, FOURS]:
            self.agree(puzzle)

    def test_large_floors(self):
        boxes = [
            ((THREE, 4), (TWO, 2)),
            ((TWO, 4), (ONE, 8)),
            ((TWO, 4), (((0, 0), (0, 1), (0, 2), (1, 0)), 1), (((0, 1), (1, 0), (1, 1), (1, 2)), 1)),
            ((((0, 1), (1, 0), (1, 1), (1, 2), (2, 1)), 2), (ONE, 6)),
            ((((0, 0), (0, 1), (1, 1), (1, 2), (2, 2)), 2), (((0, 1), (1, 0), (1, 1), (1, 2)), 1), (TWO, 1)),
            tuple((piece, 1) for piece in pieces.pieces_of(5)[:4]),
        ]
        floors = [("####",) * 4, ("######", "######", "--####"), ("-####", "#####", "#####", "-#-#-")]
        for floor, box, flag in itertools.product(floors, boxes, [True, False]):
            self.agree((floor, box, flag))


if __name__ == "__main__":
    unittest.main()

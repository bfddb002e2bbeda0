"""The examples of the interface, word for word."""

import doctest
import unittest

EXAMPLES = {
    "fitfloors/pieces.py": r"""
>>> from fitfloors.pieces import drawn, flipped, forms, is_piece, least_form, pieces_of, turned
>>> hook = ((0, 0), (0, 1), (0, 2), (1, 0))
>>> [turned(hook), flipped(hook), len(forms(hook, False)), len(forms(hook, True)), least_form(hook) == hook, drawn(hook), [len(pieces_of(many)) for many in [1, 2, 3, 4, 5]], is_piece(((0, 0), (1, 1)))]
[((0, 0), (0, 1), (1, 1), (2, 1)), ((0, 0), (0, 1), (0, 2), (1, 2)), 4, 8, True, ('###', '#--'), [1, 1, 2, 5, 12], False]
""",
    "fitfloors/puzzles.py": r"""
>>> from fitfloors.puzzles import covering, floor_cells, is_laying, is_puzzle, placements, shown, spare
>>> puzzle = (('##', '##'), ((((0, 0), (0, 1)), 2),), False)
>>> flat = ((0, ((0, 0), (0, 1))), (0, ((1, 0), (1, 1))))
>>> [floor_cells(puzzle), spare(puzzle), len(placements(puzzle)), covering(puzzle, (1, 1)), is_laying(puzzle, flat), shown(puzzle, flat), is_puzzle((('##',), (), True))]
[((0, 0), (0, 1), (1, 0), (1, 1)), 0, 4, ((0, ((0, 1), (1, 1))), (0, ((1, 0), (1, 1)))), True, ('aa', 'aa'), False]
""",
    "fitfloors/counting.py": r"""
>>> from fitfloors.counting import class_count, count_by_rows, floor_turnings, forms_used, laying_count, layings, row_counts, sure_placements, uses
>>> puzzle = (('##', '##'), ((((0, 0), (0, 1)), 2),), False)
>>> [laying_count(puzzle), layings(puzzle)[0], class_count(puzzle), floor_turnings(puzzle), count_by_rows(puzzle), row_counts(puzzle), sure_placements(puzzle), uses(puzzle)[0], forms_used(puzzle, layings(puzzle)[1])]
[2, ((0, ((0, 0), (0, 1))), (0, ((1, 0), (1, 1)))), 1, 4, 2, (2, 1), (), ((0, ((0, 0), (0, 1))), 1), ((((0, 0), (1, 0)),),)]
""",
    "fitfloors/wholes.py": r"""
>>> from fitfloors.wholes import shows_whole_sum, steps_between, whole_sum
>>> puzzle = (('##', '##'), ((((0, 0), (0, 1)), 2),), False)
>>> lame = (('-###', '####', '-###'), ((((0, 0), (0, 1)), 5),), False)
>>> [shows_whole_sum(puzzle, (((0, ((0, 0), (0, 1))), 1), ((0, ((1, 0), (1, 1))), 1))), shows_whole_sum(puzzle, whole_sum(puzzle)), whole_sum(lame), shows_whole_sum(lame, None), steps_between((('##-#',), ((((0, 0), (0, 1), (0, 2)), 1),), False))]
[True, True, None, True, ()]
""",
    "fitfloors/shares.py": r"""
>>> from fitfloors.puzzles import placements
>>> from fitfloors.shares import share_sum, shows_share_sum
>>> puzzle = (('##', '##'), ((((0, 0), (0, 1)), 2),), False)
>>> [shows_share_sum(puzzle, tuple([(one, (1, 2)) for one in placements(puzzle)])), shows_share_sum(puzzle, share_sum(puzzle)), share_sum((('##-#',), ((((0, 0), (0, 1), (0, 2)), 1),), False))]
[True, True, None]
""",
    "fitfloors/papers.py": r"""
>>> from fitfloors.papers import never_paper, paper_size, shows_never, why
>>> lame = (('-###', '####', '-###'), ((((0, 0), (0, 1)), 5),), False)
>>> one = (('##-#',), ((((0, 0), (0, 1), (0, 2)), 1),), False)
>>> [why(lame), shows_never(lame, never_paper(lame)), paper_size(lame, never_paper(lame)), why((('##', '##'), ((((0, 0), (0, 1)), 2),), False)), why(one), shows_never(one, ('cases', (0, 0), ())), shows_never(one, ('cases', (0, 2), ())), paper_size(one, ('cases', (0, 0), ()))]
['whole', True, ('whole', 1), None, 'whole', True, False, ('cases', 1)]
""",
    "fitfloors/stripes.py": r"""
>>> from fitfloors.papers import paper_size
>>> from fitfloors.stripes import coloured, fewest_colours, stripe_paper, stripes
>>> lame = (('-###', '####', '-###'), ((((0, 0), (0, 1)), 5),), False)
>>> [stripes(lame, 2), fewest_colours(lame), coloured(lame, 2, 1, 1), stripe_paper(lame, 2, 1, 1)[2], paper_size(lame, stripe_paper(lame, 2, 1, 1)), stripe_paper(lame, 2, 0, 1)]
[((1, 1),), 2, ('-101', '1010', '-101'), ((-1, 2),), ('whole', 1), None]
""",
    "fitfloors/plays.py": r"""
>>> from fitfloors.plays import Play
>>> play = Play((('##', '##'), ((((0, 0), (0, 1)), 2),), False))
>>> play.lay((0, ((1, 0), (1, 1))))
>>> [play.hints(), play.forced(), play.count(), play.rows(), play.left(), play.lift((1, 0)), play.count(), play.lain(), play.is_done()]
[((0, ((0, 0), (0, 1))),), ((0, ((0, 0), (0, 1))),), 1, ('##', 'aa'), (((0, 0), (0, 1)), (1,)), (0, ((1, 0), (1, 1))), 2, (), False]
""",
    "fitfloors/texts.py": r"""
>>> from fitfloors.texts import read_puzzle, written
>>> puzzle = (('##', '##'), ((((0, 0), (0, 1)), 2),), False)
>>> [written(puzzle), read_puzzle(written(puzzle)) == puzzle]
['floor\n##\n##\npiece 2\n##\nflipped no\n', True]
""",
}


class ExamplesTest(unittest.TestCase):
    def test_each_section(self):
        self.assertEqual(len(EXAMPLES), 9)
        for name, text in EXAMPLES.items():
            with self.subTest(name):
                examples = doctest.DocTestParser().get_doctest(text, {}, name, name, 0)
                told = []
                result = doctest.DocTestRunner(verbose=False).run(examples, out=told.append)
                self.assertEqual(result.failed, 0, "".join(told))
                self.assertGreater(result.attempted, 1)


if __name__ == "__main__":
    unittest.main()

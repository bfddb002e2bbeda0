"""Point 12: puzzles as texts."""

import random
import unittest

from checks import bad_line
from fitfloors.errors import BadText
from fitfloors.pieces import drawn, forms, pieces_of
from fitfloors.puzzles import is_puzzle
from fitfloors.texts import read_puzzle, written
from samples import (
    BARE,
    BENT,
    CASES,
    FIVE,
    HOLED,
    HOOK,
    LAME,
    LARGE,
    MIXED,
    ONE,
    PLAIN,
    PUZZLES,
    SMALL,
    SQUARE,
    STAIRS,
    THREE,
    TWO,
    WRONG,
    Case,
)

ALL = PUZZLES + SMALL + CASES + [LAME, BARE]

NO_TEXTS = [None, True, False, 0, 1, 10**30, 1.0, b"", b"floor\n", [], (), {}, set(), ["floor"], ("floor", "##"), PLAIN]

FLOOR_LINES = "floor\n##\n##\n"
PART = "piece 2\n##\n"
LAST = "flipped no\n"

# Texts that are no puzzle's, with the number of the line that tells so.
BAD_TEXTS = [
    # the first line
    ("", 0),
    ("\n", 0),
    ("floors\n##\n##\npiece 2\n##\nflipped no\n", 0),
    ("Floor\n##\n##\npiece 2\n##\nflipped no\n", 0),
    (" floor\n##\n##\npiece 2\n##\nflipped no\n", 0),
    ("floor \n##\n##\npiece 2\n##\nflipped no\n", 0),
    ("floor\r\n##\n##\npiece 2\n##\nflipped no\n", 0),
    ("\nfloor\n##\n##\npiece 2\n##\nflipped no\n", 0),
    ("##\n##\npiece 2\n##\nflipped no\n", 0),
    ("piece 2\n##\nflipped no\n", 0),
    ("flipped no\n", 0),
    # the last line is not ended, ahead of the first one
    ("floor", 0),
    ("x", 0),
    ("floor\n##\n##\npiece 2\n##\nflipped no", 5),
    ("floors\n##\n##\npiece 2\n##\nflipped no", 5),
    ("\n\nx", 2),
    ("floor\nx", 1),
    ("floor\n ", 1),
    ("floor\n##\n##\npiece 2\n##\nflipped no\n ", 6),
    ("floor\n##\npiece 9\n##\npiece 1\n#", 5),
    # no line but perhaps the last begins with piece: the number of all lines
    ("floor\n", 1),
    ("floor\n##\n", 2),
    ("floor\n##\n##\nflipped no\n", 4),
    ("floor\n##\n##\n##\nflipped no\n", 5),
    ("floor\n##\npiece 1\n", 3),
    ("floor\npiece 1\n", 2),
    ("floor\n\n\n\n", 4),
    ("floor\n##\n piece 2\n##\nflipped no\n", 5),
    ("floor\n##\nPiece 2\n##\nflipped no\n", 5),
    ("floor\n##\npiec 2\n##\nflipped no\n", 5),
    ("floor\n" * 20, 20),
    # no floor
    ("floor\npiece 2\n##\nflipped no\n", 1),
    ("floor\n\npiece 2\n##\nflipped no\n", 1),
    ("floor\n--\n--\npiece 2\n##\nflipped no\n", 1),
    ("floor\n##\n#\npiece 2\n##\nflipped no\n", 1),
    ("floor\n##\n##\n\npiece 2\n##\nflipped no\n", 1),
    ("floor\n##\n#.\npiece 2\n##\nflipped no\n", 1),
    ("floor\n##\n# \npiece 2\n##\nflipped no\n", 1),
    ("floor\n##\r\n##\r\npiece 2\n##\nflipped no\n", 1),
    ("floor\n#######\npiece 2\n##\nflipped no\n", 1),
    ("floor\n" + "#\n" * 7 + "piece 2\n##\nflipped no\n", 1),
    ("floor\n######\n######\n#####-\npiece 2\n##\nflipped no\n", 1),
    ("floor\nfloor\n##\npiece 2\n##\nflipped no\n", 1),
    ("floor\nx\npiece\nx\nx\n", 1),
    ("floor\nx\npiece 2\n##\npiece 2\n##\nx\n", 1),
    # the first line of a part
    (FLOOR_LINES + "piece\n##\n" + LAST, 3),
    (FLOOR_LINES + "piece \n##\n" + LAST, 3),
    (FLOOR_LINES + "piece 0\n##\n" + LAST, 3),
    (FLOOR_LINES + "piece 9\n##\n" + LAST, 3),
    (FLOOR_LINES + "piece 10\n##\n" + LAST, 3),
    (FLOOR_LINES + "piece 02\n##\n" + LAST, 3),
    (FLOOR_LINES + "piece -1\n##\n" + LAST, 3),
    (FLOOR_LINES + "piece +1\n##\n" + LAST, 3),
    (FLOOR_LINES + "piece 1.0\n##\n" + LAST, 3),
    (FLOOR_LINES + "piece  1\n##\n" + LAST, 3),
    (FLOOR_LINES + "piece 1 \n##\n" + LAST, 3),
    (FLOOR_LINES + "piece 1\r\n##\n" + LAST, 3),
    (FLOOR_LINES + "piece\t1\n##\n" + LAST, 3),
    (FLOOR_LINES + "piece1\n##\n" + LAST, 3),
    (FLOOR_LINES + "pieces 1\n##\n" + LAST, 3),
    (FLOOR_LINES + "piece one\n##\n" + LAST, 3),
    (FLOOR_LINES + "piece \u0661\n##\n" + LAST, 3),
    (FLOOR_LINES + "piece \u00b2\n##\n" + LAST, 3),
    (FLOOR_LINES + "piece " + "9" * 5000 + "\n##\n" + LAST, 3),
    (FLOOR_LINES + "piece 9\nx\n" + LAST, 3),
    (FLOOR_LINES + "piece 9\n##\npiece 9\n##\nx\n", 3),
    (FLOOR_LINES + PART + "piece 0\n#\n" + LAST, 5),
    (FLOOR_LINES + PART + "pieces\n" + LAST, 5),
    (FLOOR_LINES + PART + "piece 9\n##\n" + LAST, 5),
    # the other lines of a part
    (FLOOR_LINES + "piece 2\n" + LAST, 4),
    (FLOOR_LINES + "piece 2\n\n" + LAST, 4),
    (FLOOR_LINES + "piece 2\n--\n" + LAST, 4),
    (FLOOR_LINES + "piece 2\n##\n\n" + LAST, 4),
    (FLOOR_LINES + "piece 2\n##\n--\n" + LAST, 4),
    (FLOOR_LINES + "piece 2\n--\n##\n" + LAST, 4),
    (FLOOR_LINES + "piece 2\n##-\n" + LAST, 4),
    (FLOOR_LINES + "piece 2\n-##\n" + LAST, 4),
    (FLOOR_LINES + "piece 2\n##\n#\n" + LAST, 4),
    (FLOOR_LINES + "piece 2\n#\n##\n" + LAST, 4),
    (FLOOR_LINES + "piece 2\n#-\n-#\n" + LAST, 4),
    (FLOOR_LINES + "piece 2\n#-#\n" + LAST, 4),
    (FLOOR_LINES + "piece 2\n######\n" + LAST, 4),
    (FLOOR_LINES + "piece 2\n###\n###\n" + LAST, 4),
    (FLOOR_LINES + "piece 2\n#.\n##\n" + LAST, 4),
    (FLOOR_LINES + "piece 2\n# \n##\n" + LAST, 4),
    (FLOOR_LINES + "piece 2\n##\r\n" + LAST, 4),
    (FLOOR_LINES + "piece 2\naa\n" + LAST, 4),
    (FLOOR_LINES + "piece 2\n##\nflipped no\nflipped no\n", 4),
    (FLOOR_LINES + "piece 2\n##\nflipped no\n\n", 4),
    (FLOOR_LINES + "piece 2\npiece 2\n##\n" + LAST, 4),
    (FLOOR_LINES + "piece 2\n" + "#" * 3000 + "\n" + LAST, 4),
    (FLOOR_LINES + "piece 2\n" + "#\n" * 3000 + LAST, 4),
    (FLOOR_LINES + PART + "piece 1\n#-\n" + LAST, 6),
    (FLOOR_LINES + PART + "piece 1\n" + LAST, 6),
    (FLOOR_LINES + PART + "piece 1\n#-\nx\n", 6),
    # a common form with that of an earlier part
    (FLOOR_LINES + PART + "piece 1\n##\n" + LAST, 5),
    (FLOOR_LINES + PART + "piece 1\n#\n#\n" + LAST, 5),
    (FLOOR_LINES + PART + "piece 1\n#\n#\nx\n", 5),
    (FLOOR_LINES + PART + "piece 1\n#\npiece 8\n#\n#\n" + LAST, 7),
    (FLOOR_LINES + "piece 1\n-##\n##-\npiece 1\n##-\n-##\n" + LAST, 6),
    (FLOOR_LINES + "piece 1\n-##\n##-\npiece 1\n#-\n##\n-#\n" + LAST, 6),
    (FLOOR_LINES + "piece 1\n#\npiece 1\n##\npiece 1\n###\npiece 1\n##\n" + LAST, 9),
    # four parts stood ahead
    (FLOOR_LINES + "".join(f"piece 1\n{row}\n" for row in ["#", "##", "###", "####", "#####"]) + LAST, 11),
    (FLOOR_LINES + "".join(f"piece 1\n{row}\n" for row in ["#", "##", "###", "####", "x"]) + LAST, 11),
    (FLOOR_LINES + "".join(f"piece 1\n{row}\n" for row in ["#", "##", "###", "####", "#"]) + "x\n", 11),
    (FLOOR_LINES + "".join(f"piece 1\n{row}\n" for row in ["#", "##", "###", "####", "#", "x"]) + LAST, 11),
    (FLOOR_LINES + "".join(f"piece 1\n{row}\n" for row in ["#", "##", "###", "#-##", "#####"]) + LAST, 10),
    (FLOOR_LINES + "".join(f"piece 1\n{row}\n" for row in ["#", "##", "###", "###", "#####"]) + LAST, 9),
    # the last line
    (FLOOR_LINES + PART + "flipped\n", 5),
    (FLOOR_LINES + PART + "flipped \n", 5),
    (FLOOR_LINES + PART + "flipped maybe\n", 5),
    (FLOOR_LINES + PART + "flipped No\n", 5),
    (FLOOR_LINES + PART + "flipped  no\n", 5),
    (FLOOR_LINES + PART + "flipped no \n", 5),
    (FLOOR_LINES + PART + "flipped no\r\n", 5),
    (FLOOR_LINES + PART + " flipped no\n", 5),
    (FLOOR_LINES + PART + "flipped true\n", 5),
    (FLOOR_LINES + PART + "no\n", 5),
    (FLOOR_LINES + PART + "\n", 5),
    (FLOOR_LINES + PART + "##\n", 5),
    (FLOOR_LINES + PART + "piece 1\n", 5),
    (FLOOR_LINES + PART + "floor\n", 5),
    (FLOOR_LINES + PART, 4),
]


class WrittenTest(Case):
    def test_some_puzzles(self):
        self.assertEqual(written(PLAIN), "floor\n##\n##\npiece 2\n##\nflipped no\n")
        self.assertEqual(
            written(HOLED), "floor\n###\n#-#\n###\npiece 1\n###\npiece 1\n##\npiece 1\n##\n#-\nflipped no\n"
        )
        self.assertEqual(written(MIXED), "floor\n####\n###-\npiece 1\n##\n#-\npiece 1\n##\npiece 2\n#\nflipped yes\n")
        self.assertEqual(written(STAIRS), "floor\n###\n###\npiece 1\n##-\n-##\npiece 2\n#\nflipped no\n")
        self.assertEqual(written((("#",), ((ONE, 8),), True)), "floor\n#\npiece 8\n#\nflipped yes\n")

    def test_pieces_are_drawn_as_they_lie(self):
        for form in forms(HOOK, True):
            text = written((("##", "--"), ((form, 3),), True))
            self.assertEqual(text, "floor\n##\n--\npiece 3\n" + "".join(row + "\n" for row in drawn(form)) + "flipped yes\n")

    def test_wrong_puzzles(self):
        for value, word in WRONG:
            self.bad_puzzle(word, written, value)


class ReadPuzzleTest(Case):
    def bad_text(self, text, line):
        with self.assertRaises(BadText, msg=text) as caught:
            read_puzzle(text)
        self.assertEqual(caught.exception.line, line, text)
        self.assertIs(type(caught.exception.line), int)

    def test_what_was_written(self):
        for puzzle in ALL:
            self.assertEqual(read_puzzle(written(puzzle)), puzzle)

    def test_all_pieces_in_all_forms(self):
        for size in range(1, 6):
            for piece in pieces_of(size):
                for form in forms(piece, True):
                    for flag in [True, False]:
                        puzzle = (("#-#",), ((form, size),), flag)
                        self.assertEqual(read_puzzle(written(puzzle)), puzzle)

    def test_four_kinds_and_the_limits_of_numbers(self):
        puzzle = (("------", "######") * 2, ((FIVE, 8), (SQUARE, 1), (BENT, 8), (THREE, 1)), True)
        self.assertEqual(read_puzzle(written(puzzle)), puzzle)
        self.assertTrue(is_puzzle(read_puzzle(written(puzzle))))

    def test_plain_values_are_given(self):
        floor, box, is_flipped = read_puzzle(FLOOR_LINES + PART + "flipped yes\n")
        self.assertIs(type(floor), tuple)
        self.assertIs(type(box), tuple)
        self.assertIs(type(box[0]), tuple)
        self.assertIs(type(box[0][0]), tuple)
        self.assertIs(type(box[0][1]), int)
        self.assertIs(is_flipped, True)
        self.assertEqual((floor, box), (("##", "##"), ((TWO, 2),)))

    def test_no_strings(self):
        for value in NO_TEXTS:
            self.bad_text(value, 0)

    def test_each_line(self):
        for text, line in BAD_TEXTS:
            self.bad_text(text, line)
            self.assertEqual(bad_line(text), line, text)

    def test_texts_with_a_line_taken_away_doubled_or_put_elsewhere(self):
        chance = random.Random(12)
        for puzzle in PUZZLES + CASES + [LAME, BARE]:
            lines = written(puzzle).split("\n")[:-1]
            for at in range(len(lines)):
                rest = lines[:at] + lines[at + 1:]
                other = chance.randrange(len(lines))
                self.as_by_hand(rest)
                self.as_by_hand(lines[:at] + lines[at:at + 1] + lines[at:])
                self.as_by_hand(rest[:other] + [lines[at]] + rest[other:])
                for line in ["", "#", "##", "--", "floor", "piece 1", "piece 9", "pieces", "flipped yes", "flipped"]:
                    self.as_by_hand(lines[:at] + [line] + lines[at:])
                    self.as_by_hand(lines[:at] + [line] + lines[at + 1:])

    def test_texts_with_signs_taken_away_and_put_in(self):
        chance = random.Random(13)
        signs = "#-\n piecefloorflippedyesno0123456789ab\r\t"
        seen = {}
        for puzzle in [PLAIN, HOLED, MIXED, LARGE] + CASES:
            text = written(puzzle)
            for _ in range(500):
                bent = text
                for _ in range(chance.choice([1, 1, 2, 4])):
                    at = chance.randrange(len(bent))
                    bent = bent[:at] + chance.choice(["", chance.choice(signs)]) + bent[at + chance.choice([0, 1]):]
                line = self.compared(bent)
                seen[line] = seen.get(line, 0) + 1
        self.assertGreater(len(seen), 8)
        self.assertGreater(seen[None], 20)

    def as_by_hand(self, lines):
        self.compared("".join(line + "\n" for line in lines))
        self.compared("\n".join(lines))

    def compared(self, text):
        line = bad_line(text)
        if line is not None:
            self.bad_text(text, line)
        else:
            # There is just one text of each puzzle.
            self.assertEqual(written(read_puzzle(text)), text)
        return line


class ExampleTest(unittest.TestCase):
    def test_the_example_of_the_interface(self):
        puzzle = (("##", "##"), ((((0, 0), (0, 1)), 2),), False)
        told = [written(puzzle), read_puzzle(written(puzzle)) == puzzle]
        self.assertEqual(told, ["floor\n##\n##\npiece 2\n##\nflipped no\n", True])


if __name__ == "__main__":
    unittest.main()

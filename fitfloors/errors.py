"""The errors that the program raises."""


class FloorError(ValueError):
    """The base of all errors of the program."""


class BadPiece(FloorError):
    """A value is no piece, or no number of cells that a piece may have."""


class BadPuzzle(FloorError):
    """A value is no puzzle or does not belong to it; word tells what is wrong first."""

    def __init__(self, word):
        self.word = word


class BadPlacement(FloorError):
    """A value is no placement that can be laid or lifted."""


class BadCell(FloorError):
    """A value is no cell of the floor."""


class BadText(FloorError):
    """A text is no puzzle's; line is the number of the line that tells so."""

    def __init__(self, line):
        self.line = line


class NothingBack(FloorError):
    """No placement lies that could be taken off."""


class TooMany(FloorError):
    """There are more layings than are listed; most is how many would be."""

    def __init__(self, most):
        self.most = most

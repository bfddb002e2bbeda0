"""Laying a floor by hand, placement by placement."""

from fitfloors.errors import BadPlacement, NothingBack
from fitfloors.puzzles import check_cell, is_kind_and_cells, letters_on, signed_rows
from fitfloors.searching import Search


class Play:
    """A floor, and the placements that lie on it in the sequence in which they were laid."""

    def __init__(self, puzzle):
        self.search = Search(puzzle)
        self.puzzle = puzzle
        self.laid = []

    def lay(self, placement):
        """Lay a placement that fits."""
        # True and False are equal to integers, so being equal to one that fits is not enough.
        if not is_kind_and_cells(placement) or placement not in self.fitting():
            raise BadPlacement()
        self.laid.append(placement)

    def lift(self, cell):
        """Take the placement off that covers a cell, and return it."""
        check_cell(self.puzzle, cell)
        for placement in list(self.laid):
            if cell in placement[1]:
                self.laid.remove(placement)
                return placement
        raise BadPlacement()

    def undo(self):
        """Take the placement off that was laid last of those that lie, and return it."""
        if not self.laid:
            raise NothingBack()
        return self.laid.pop()

    def lain(self):
        """Give the placements in the sequence in which they were laid."""
        return tuple(self.laid)

    def left(self):
        """Give the pair of the bare cells and the numbers of pieces left."""
        state = self._state()
        return self.search.bare_cells(state), self.search.numbers_left(state)

    def fitting(self):
        """Give the placements that fit, ascending."""
        return tuple([placement for placement, behind in self.search.all_steps(self._state())])

    def count(self):
        """Give how many layings have all that lies."""
        return self.search.ways(self._state())

    def is_done(self):
        """Tell whether all cells are covered and all pieces are used."""
        return self._state() == 0

    def hints(self):
        """Give the placements that fit and behind which there still is a laying, ascending."""
        steps = self.search.all_steps(self._state())
        return tuple([placement for placement, behind in steps if self.search.ways(behind) > 0])

    def forced(self):
        """Give the placements that fit and that all layings have that have all that lies, ascending."""
        many = self.count()
        if many == 0:
            return ()
        steps = self.search.all_steps(self._state())
        return tuple([placement for placement, behind in steps if self.search.ways(behind) == many])

    def rows(self):
        """Give the rows of the floor: # for bare cells, the letter of the kind for covered ones."""
        signs = letters_on(self.laid)
        for cell in self.search.bare_cells(self._state()):
            signs[cell] = "#"
        return signed_rows(self.puzzle, signs)

    def _state(self):
        return self.search.behind(self.laid)

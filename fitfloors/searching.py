"""Laying a floor cell by cell: what is left between, and the ways from there."""

from fitfloors.puzzles import floor_cells, placements

# A kind has at most 8 pieces, so that four bits hold how many are left.
KIND_BITS = 4
KIND_MASK = 15


class Search:
    """All ways to lay the floor of a puzzle, or what is left of it.

    What is left is one integer, called a state: a bit for each cell of the
    floor, 1 while it is bare, and above these four bits for each kind, the
    number of its pieces left. So a placement is laid by a subtraction, and the
    state is 0 when all cells are covered and all pieces are used.
    """

    def __init__(self, puzzle):
        self.cells = floor_cells(puzzle)
        self.bits = {cell: 1 << at for at, cell in enumerate(self.cells)}
        self.all_bare = (1 << len(self.cells)) - 1
        self.start = self.all_bare
        self.many_kinds = len(puzzle[1])
        for kind, (piece, number) in enumerate(puzzle[1]):
            self.start += number << self._kind_place(kind)
        self.all_parts = [self._part(placement) for placement in placements(puzzle)]
        # Whatever covers the first bare cell of a state has it as its first
        # cell, since all cells before are covered.
        self.openings = {bit: [] for bit in self.bits.values()}
        for part in self.all_parts:
            placement = part[0]
            self.openings[self.bits[placement[1][0]]].append(part)
        self.known = {0: 1}

    def steps(self, state):
        """Give the pairs (placement that fits and covers the first bare cell, state behind it)."""
        if state & self.all_bare == 0:
            return []
        return _fitting_parts(self.openings[state & -state], state)

    def all_steps(self, state):
        """Give the pairs (placement that fits, state behind it), ascending."""
        return _fitting_parts(self.all_parts, state)

    def behind(self, laid):
        """Give the state behind placements that cover no cell twice and are not too many of a kind."""
        state = self.start
        for placement in laid:
            state -= self._part(placement)[-1]
        return state

    def is_bare(self, state, cell):
        """Tell whether a cell is bare in a state."""
        return state & self.bits[cell] != 0

    def bare_cells(self, state):
        """Give the cells that are bare in a state, ascending."""
        return tuple([cell for cell in self.cells if self.is_bare(state, cell)])

    def numbers_left(self, state):
        """Give, for each kind, the number of its pieces that are left in a state."""
        return tuple([state >> self._kind_place(kind) & KIND_MASK for kind in range(self.many_kinds)])

    def ways(self, state):
        """Give how many ways there are to lay all that a state has left."""
        if state not in self.known:
            self.known[state] = sum([self.ways(behind) for placement, behind in self.steps(state)])
        return self.known[state]

    def good_steps(self, state):
        """Give the steps of a state behind which all can be laid."""
        return [(placement, behind) for placement, behind in self.steps(state) if self.ways(behind) > 0]

    def a_laying(self):
        """Give a laying, None if there is none."""
        if self.ways(self.start) == 0:
            return None
        laid = []
        state = self.start
        while state != 0:
            placement, state = self.good_steps(state)[0]
            laid.append(placement)
        return tuple(sorted(laid))

    def all_layings(self):
        """Give all layings, ascending."""
        found = []
        begun = [((), self.start)]
        while begun:
            laid, state = begun.pop()
            if state == 0:
                found.append(tuple(sorted(laid)))
            for placement, behind in self.good_steps(state):
                begun.append(((*laid, placement), behind))
        return sorted(found)

    def all_uses(self):
        """Give the dict from each placement that some laying has to how many have it."""
        found = {}
        if self.ways(self.start) == 0:
            return found
        ways_here = {self.start: 1}
        # Each state became known after all that come behind it. So, from the
        # last on, each comes when all the ways that lead to it are counted.
        states = list(self.known)
        for state in reversed(states):
            here = ways_here.get(state, 0)
            for placement, behind in self.good_steps(state):
                ways_here[behind] = ways_here.get(behind, 0) + here
                found[placement] = found.get(placement, 0) + here * self.ways(behind)
        return found

    def _kind_place(self, kind):
        """Give the number of bits that stand below those of a kind."""
        return len(self.cells) + kind * KIND_BITS

    def _part(self, placement):
        """Give a placement with the bits of its cells, those of its kind, and what it takes off a state."""
        kind, cells = placement
        cell_bits = sum([self.bits[cell] for cell in cells])
        place = self._kind_place(kind)
        return placement, cell_bits, KIND_MASK << place, cell_bits + (1 << place)


def _fitting_parts(parts, state):
    """Give the pairs (placement, state behind it) of the parts that fit in a state."""
    found = []
    for placement, cell_bits, kind_bits, taken in parts:
        if state & cell_bits == cell_bits and state & kind_bits != 0:
            found.append((placement, state - taken))
    return found

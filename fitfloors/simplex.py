"""Numbers above 0 by which lists of integers add up to another."""


def parts_above_0(columns, wish):
    """Give numbers above 0 by which columns add up to a wish that is nowhere below 0.

    The answer is a pair: the dict from the index of each column that has such
    a number to its numerator, and the denominator of them all. It is None if
    there are no such numbers.
    """
    table = Table(columns, wish)
    while table.missing() > 0:
        column = table.helping_column()
        if column is None:
            return None
        table.put_in(column, table.row_for(column))
    return table.parts()


class Table:
    """The columns and the wish, written by the columns that are put in.

    A row has a number for each column and, last, one for the wish. At first
    there is one row for each place, and all are open: their last numbers are
    missing to the wish. A column that is put in holds one row from then on,
    and that row's last number tells how much of the column there is. All
    numbers are numerators above one divisor, so that they are integers.
    """

    def __init__(self, columns, wish):
        self.many = len(columns)
        self.rows = [[column[place] for column in columns] + [entry] for place, entry in enumerate(wish)]
        # For each row the index of the column that holds it, None while it is open.
        self.holders = [None for row in self.rows]
        self.divisor = 1

    def missing(self):
        """Give the numerator of what is missing to the wish."""
        return self._sum_of_open_rows(self.many)

    def helping_column(self):
        """Give the first column of which more leaves less missing, None if there is none."""
        for column in range(self.many):
            if self._sum_of_open_rows(column) > 0:
                return column
        return None

    def row_for(self, column):
        """Give the index of the row whose last number is first at 0 when a helping column grows."""
        best = None
        for at, row in enumerate(self.rows):
            if row[column] > 0 and (best is None or self._is_before(at, best, column)):
                best = at
        return best

    def put_in(self, column, at):
        """Let a column hold a row, in place of what held it."""
        held = self.rows[at]
        rows = [self._cleared(row, held, column) for row in self.rows]
        rows[at] = held
        self.rows = rows
        self.holders[at] = column
        self.divisor = held[column]

    def parts(self):
        """Give the dict from the columns of which there is more than 0 to how much, and the divisor."""
        found = {}
        for holder, row in zip(self.holders, self.rows):
            if holder is not None and row[-1] > 0:
                found[holder] = row[-1]
        return found, self.divisor

    def _sum_of_open_rows(self, column):
        return sum([row[column] for holder, row in zip(self.holders, self.rows) if holder is None])

    def _is_before(self, at, other, column):
        """Tell whether a row's last number is at 0 before another's when a column grows."""
        mine = self.rows[at][-1] * self.rows[other][column]
        others = self.rows[other][-1] * self.rows[at][column]
        # Where both are at 0 at once, a fixed sequence must decide: else the
        # same columns could be put in and out for ever (Bland's rule).
        return (mine, self._rank(at)) < (others, self._rank(other))

    def _rank(self, at):
        """Give what is less the earlier a row is chosen: open rows first, then by the columns that hold them."""
        holder = self.holders[at]
        return (0, at) if holder is None else (1, holder)

    def _cleared(self, row, held, column):
        """Give a row less as much of another as leaves it 0 at a column, above the divisor to come."""
        # There is never a remainder: the numbers are determinants of the
        # columns and the wish as they were at the start.
        return [(held[column] * part - row[column] * taken) // self.divisor for part, taken in zip(row, held)]

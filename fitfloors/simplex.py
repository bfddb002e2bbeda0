"""Numbers above 0 by which lists of integers add up to another, and weights by which none do."""


def parts_above_0(columns, wish):
    """Give numbers above 0 by which columns add up to a wish that is nowhere below 0.

    The answer is a pair: the dict from the index of each column that has such
    a number to its numerator, and the denominator of them all. It is None if
    there are no such numbers.
    """
    table = _filled_table(columns, wish)
    return None if table.missing() > 0 else table.parts()


def weights_against(columns, wish):
    """Give integers for the places by which no column weighs below 0, and the wish does.

    The answer is None if there are numbers above 0 by which the columns add up
    to the wish.
    """
    table = _filled_table(columns, wish)
    return table.weights() if table.missing() > 0 else None


def _filled_table(columns, wish):
    """Give the table when no more columns help."""
    table = Table(columns, wish)
    while table.missing() > 0:
        column = table.helping_column()
        if column is None:
            break
        table.put_in(column, table.row_for(column))
    return table


class Table:
    """The columns and the wish, written by the columns that are put in.

    A row has a number for each column, one for the wish, and one for each
    place. At first there is one row for each place, and all are open: their
    numbers for the wish are missing to it. A column that is put in holds one
    row from then on, and that row's number for the wish tells how much of the
    column there is. The numbers for the places tell of which rows, as they
    were at first, a row is the sum. All numbers are numerators above one
    divisor, so that they are integers.
    """

    def __init__(self, columns, wish):
        self.many = len(columns)
        self.rows = []
        for place, entry in enumerate(wish):
            marks = [int(place == other) for other in range(len(wish))]
            self.rows.append([column[place] for column in columns] + [entry] + marks)
        # For each row the index of the column that holds it, None while it is open.
        self.holders = [None for row in self.rows]
        self.divisor = 1

    def missing(self):
        """Give the numerator of what is missing to the wish."""
        return self._sum_of_open_rows(self.many)

    def helping_column(self):
        """Give the first column of which more leaves less missing, None if there is none."""
        for column in range(self.many):
            if self._sum_of_open_rows(column) > 0:
                return column
        return None

    def row_for(self, column):
        """Give the index of the row whose number for the wish is first at 0 when a helping column grows."""
        best = None
        for at, row in enumerate(self.rows):
            if row[column] > 0 and (best is None or self._is_before(at, best, column)):
                best = at
        return best

    def put_in(self, column, at):
        """Let a column hold a row, in place of what held it."""
        held = self.rows[at]
        rows = [self._cleared(row, held, column) for row in self.rows]
        rows[at] = held
        self.rows = rows
        self.holders[at] = column
        self.divisor = held[column]

    def parts(self):
        """Give the dict from the columns of which there is more than 0 to how much, and the divisor."""
        found = {}
        for holder, row in zip(self.holders, self.rows):
            if holder is not None and row[self.many] > 0:
                found[holder] = row[self.many]
        return found, self.divisor

    def weights(self):
        """Give integers for the places by which no column weighs below 0, and the wish does.

        This is so if something is missing to the wish, and no column helps.
        """
        # The open rows add up to nothing above 0 at any column, and to what is
        # missing at the wish.
        places = range(self.many + 1, len(self.rows[0]))
        return [-self._sum_of_open_rows(place) for place in places]

    def _sum_of_open_rows(self, column):
        return sum([row[column] for holder, row in zip(self.holders, self.rows) if holder is None])

    def _is_before(self, at, other, column):
        """Tell whether a row's number for the wish is at 0 before another's when a column grows."""
        mine = self.rows[at][self.many] * self.rows[other][column]
        others = self.rows[other][self.many] * self.rows[at][column]
        # Where both are at 0 at once, a fixed sequence must decide: else the
        # same columns could be put in and out for ever (Bland's rule).
        return (mine, self._rank(at)) < (others, self._rank(other))

    def _rank(self, at):
        """Give what is less the earlier a row is chosen: open rows first, then by the columns that hold them."""
        holder = self.holders[at]
        return (0, at) if holder is None else (1, holder)

    def _cleared(self, row, held, column):
        """Give a row less as much of another as leaves it 0 at a column, above the divisor to come."""
        # There is never a remainder: the numbers are determinants of the
        # columns and the wish as they were at the start.
        return [(held[column] * part - row[column] * taken) // self.divisor for part, taken in zip(row, held)]

"""Sums of lists of integers, each times any integer."""


def echelon(rows, width):
    """Give lists of which all sums of the rows are sums, in steps.

    The answer is a dict: for each place below width at which sums of the rows
    can have a number other than 0, while they have 0 at all places before, a
    sum that has the least such number above 0 there. What the rows have from
    width on is added up along with the rest.
    """
    steps = {}
    for row in rows:
        _take_in(steps, row, width)
    return steps


def lessened(steps, row, width):
    """Give a row less sums of the steps, so that at their places it has no more than remainders."""
    for place in range(width):
        if place in steps:
            row = _less(row, row[place] // steps[place][place], steps[place])
    return row


def _take_in(steps, row, width):
    """Change steps such that the row is a sum of them, too."""
    for place in range(width):
        if row[place] == 0:
            continue
        if place not in steps:
            steps[place] = row if row[place] > 0 else [-entry for entry in row]
            _settle(steps, width)
            return
        step, row = _divided(steps[place], row, place)
        if step != steps[place]:
            steps[place] = step
            _settle(steps, width)


def _settle(steps, width):
    """Lessen each step by those of later places."""
    # Else the numbers could grow with each row that is taken in.
    for place in list(steps):
        later = {other: step for other, step in steps.items() if other > place}
        steps[place] = lessened(later, steps[place], width)


def _divided(step, row, place):
    """Give two sums of a step and a row that have, at a place, their greatest common divisor and 0."""
    while True:
        row = _less(row, row[place] // step[place], step)
        if row[place] == 0:
            return step, row
        step, row = row, step


def _less(row, times, other):
    return [entry - times * part for entry, part in zip(row, other)]

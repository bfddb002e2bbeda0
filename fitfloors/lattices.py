"""Sums of lists of integers, each times any integer, and weights by which a list is no such sum."""


def echelon(rows, width):
    """Give lists of which all sums of the rows are sums, in steps.

    The answer is a dict: for each place below width at which sums of the rows
    can have a number other than 0, while they have 0 at all places before, a
    sum that has the least such number above 0 there. What the rows have from
    width on is added up along with the rest.
    """
    steps = {}
    for row in rows:
        _take_in(steps, row, width)
    return steps


def lessened(steps, row, width):
    """Give a row less sums of the steps, so that at their places it has no more than remainders."""
    for place in range(width):
        if place in steps:
            row = _less(row, row[place] // steps[place][place], steps[place])
    return row


def weights_against(steps, row):
    """Give numbers for the places of a row, by which each step weighs an integer and the row does not.

    The answer is a pair: the list of their numerators, and the denominator of
    them all. It is None if the row is a sum of the steps.
    """
    rest = lessened(steps, row, len(row))
    places = [place for place in range(len(row)) if rest[place] != 0]
    if not places:
        return None
    # The rest has nothing before this place, and here no multiple of what the
    # step has, if there is one: divided by that, it is no integer.
    place = places[0]
    numerators = [int(place == other) for other in range(len(row))]
    denominator = steps[place][place] if place in steps else abs(rest[place]) + 1
    # Steps of later places weigh nothing, as no later place has a weight. Those
    # of places before are made to weigh nothing by a weight at their own place,
    # the last one first, as each has numbers at later places, too.
    for other in range(place - 1, -1, -1):
        if other in steps:
            step = steps[other]
            weight = sum([numerator * entry for numerator, entry in zip(numerators, step)])
            numerators = [numerator * step[other] for numerator in numerators]
            numerators[other] = -weight
            denominator *= step[other]
    return numerators, denominator


def _take_in(steps, row, width):
    """Change steps such that the row is a sum of them, too."""
    for place in range(width):
        if row[place] == 0:
            continue
        if place not in steps:
            steps[place] = row if row[place] > 0 else [-entry for entry in row]
            _settle(steps, width)
            return
        step, row = _divided(steps[place], row, place)
        if step != steps[place]:
            steps[place] = step
            _settle(steps, width)


def _settle(steps, width):
    """Lessen each step by those of later places."""
    # Else the numbers could grow with each row that is taken in.
    for place in list(steps):
        later = {other: step for other, step in steps.items() if other > place}
        steps[place] = lessened(later, steps[place], width)


def _divided(step, row, place):
    """Give two sums of a step and a row that have, at a place, their greatest common divisor and 0."""
    while True:
        row = _less(row, row[place] // step[place], step)
        if row[place] == 0:
            return step, row
        step, row = row, step


def _less(row, times, other):
    return [entry - times * part for entry, part in zip(row, other)]

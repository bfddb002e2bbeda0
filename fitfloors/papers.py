"""Papers by which anyone can check, without searching, that there is no laying."""

from math import lcm

from fitfloors.counting import laying_count
from fitfloors.puzzles import floor_cells
from fitfloors.searching import Search
from fitfloors.shares import weights_against_shares
from fitfloors.values import is_an_integer, is_cell, is_ratio
from fitfloors.wholes import weights_against_wholes


def never_paper(puzzle):
    """Give a paper that there is no laying, None if there is one."""
    if laying_count(puzzle) > 0:
        return None
    many = len(floor_cells(puzzle))
    weights = weights_against_wholes(puzzle)
    if weights is not None:
        return "whole", weights[:many], weights[many:]
    weights = weights_against_shares(puzzle)
    if weights is not None:
        return "shares", weights[:many], weights[many:]
    search = Search(puzzle)
    return _paper_of_cases(search, search.start)


def shows_never(puzzle, value):
    """Tell whether a value is a paper that there is no laying."""
    search = Search(puzzle)
    return _is_paper(search, search.start, value)


def why(puzzle):
    """Give the first word of the simplest kind of paper that there is, None if there is a laying."""
    # never_paper looks for a paper of the first kind first, then of the second.
    paper = never_paper(puzzle)
    return None if paper is None else paper[0]


def paper_size(puzzle, paper):
    """Give the first word of a paper and the number of its ends, None for any other value."""
    if not shows_never(puzzle, paper):
        return None
    return paper[0], _ends(paper)


def _paper_of_cases(search, state):
    """Give a paper for a state that has no laying, but as many bare cells as its pieces have cells."""
    # So there always is a bare cell. One that few placements cover makes few cases.
    fitting = search.all_steps(state)
    best = None
    for cell in search.bare_cells(state):
        steps = _steps_over(fitting, cell)
        if best is None or len(steps) < len(best[1]):
            best = (cell, steps)
    cell, steps = best
    return "cases", cell, tuple([_paper_of_cases(search, behind) for placement, behind in steps])


def _steps_over(steps, cell):
    """Give those of the steps whose placement covers a cell."""
    return [(placement, behind) for placement, behind in steps if cell in placement[1]]


def _is_paper(search, state, value):
    """Tell whether a value is a paper that a state has no laying."""
    if not isinstance(value, tuple) or len(value) != 3 or not isinstance(value[0], str):
        return False
    word, first, second = value
    if word == "whole":
        return _are_whole_weights(search, state, first, second)
    if word == "shares":
        return _are_share_weights(search, state, first, second)
    if word == "cases":
        return _are_cases(search, state, first, second)
    return False


def _are_whole_weights(search, state, of_cells, of_kinds):
    """Tell whether each placement that fits weighs an integer, and what is left does not."""
    if not _are_for_all(search, state, of_cells, of_kinds):
        return False
    if not all([is_ratio(weight) for weight in of_cells + of_kinds]):
        return False
    times = 1
    for numerator, denominator in of_cells + of_kinds:
        times = lcm(times, denominator)
    cell_weights = [times // denominator * numerator for numerator, denominator in of_cells]
    kind_weights = [times // denominator * numerator for numerator, denominator in of_kinds]
    if any([weight % times != 0 for weight in _fitting_weights(search, state, cell_weights, kind_weights)]):
        return False
    return _left_weight(search, state, cell_weights, kind_weights) % times != 0


def _are_share_weights(search, state, of_cells, of_kinds):
    """Tell whether no placement that fits weighs below 0, and what is left does."""
    if not _are_for_all(search, state, of_cells, of_kinds):
        return False
    if not all([is_an_integer(weight) for weight in of_cells + of_kinds]):
        return False
    if any([weight < 0 for weight in _fitting_weights(search, state, of_cells, of_kinds)]):
        return False
    return _left_weight(search, state, of_cells, of_kinds) < 0


def _are_cases(search, state, cell, cases):
    """Tell whether there is a paper for each placement that fits and covers a bare cell, and for no other."""
    if not is_cell(cell) or cell not in search.bare_cells(state):
        return False
    steps = _steps_over(search.all_steps(state), cell)
    if not isinstance(cases, tuple) or len(cases) != len(steps):
        return False
    # Each case covers a bare cell, and a floor has at most 16 cells: so no
    # more cases than these are ever within one another, and 20 need no count.
    for (placement, behind), case in zip(steps, cases):
        if not _is_paper(search, behind, case):
            return False
    return True


def _are_for_all(search, state, of_cells, of_kinds):
    """Tell whether two values are tuples with something for each bare cell and for each kind."""
    if not isinstance(of_cells, tuple) or not isinstance(of_kinds, tuple):
        return False
    return len(of_cells) == len(search.bare_cells(state)) and len(of_kinds) == search.many_kinds


def _fitting_weights(search, state, of_cells, of_kinds):
    """Give what each placement that fits weighs, by integers for the bare cells and the kinds."""
    weight_of = {cell: weight for cell, weight in zip(search.bare_cells(state), of_cells)}
    fitting = [placement for placement, behind in search.all_steps(state)]
    return [of_kinds[kind] + sum([weight_of[cell] for cell in cells]) for kind, cells in fitting]


def _left_weight(search, state, of_cells, of_kinds):
    """Give what all bare cells and all pieces left weigh."""
    numbers = search.numbers_left(state)
    return sum(of_cells) + sum([weight * number for weight, number in zip(of_kinds, numbers)])


def _ends(paper):
    """Give the number of papers within a paper that are no cases or have no placements."""
    word, where, within = paper
    if word != "cases" or len(within) == 0:
        return 1
    return sum([_ends(case) for case in within])

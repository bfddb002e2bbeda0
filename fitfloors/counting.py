"""Counting and listing layings, and what is common to them."""

from fitfloors.errors import TooMany
from fitfloors.puzzles import check_laying, floor_cells, placements
from fitfloors.searching import Search
from fitfloors.turnings import set_home, turnings_onto

MOST_LISTED = 2000


def forms_used(puzzle, laying):
    """Give, for each kind, the unlike forms in which its pieces lie."""
    check_laying(puzzle, laying)
    found = []
    for kind in range(len(puzzle[1])):
        found.append(tuple(sorted({set_home(cells) for other, cells in laying if other == kind})))
    return tuple(found)


def laying_count(puzzle):
    """Give how many layings there are."""
    search = Search(puzzle)
    return search.ways(search.start)


def layings(puzzle):
    """Give all layings, ascending."""
    search = Search(puzzle)
    if search.ways(search.start) > MOST_LISTED:
        raise TooMany(MOST_LISTED)
    return tuple(search.all_layings())


def first_laying(puzzle):
    """Give a laying, None if there is none."""
    return Search(puzzle).a_laying()


def uses(puzzle):
    """Give the pairs of each placement and how many layings have it."""
    found = Search(puzzle).all_uses()
    return tuple([(placement, found.get(placement, 0)) for placement in placements(puzzle)])


def sure_placements(puzzle):
    """Give the placements that all layings have, none if there is no laying."""
    many = laying_count(puzzle)
    if many == 0:
        return ()
    return tuple([placement for placement, having in uses(puzzle) if having == many])


def floor_turnings(puzzle):
    """Give how many ways of turning, and of flipping if pieces may be, lead the floor to itself."""
    return len(turnings_onto(floor_cells(puzzle), puzzle[2]))


def class_count(puzzle):
    """Give how many layings there are, if those that the floor's turnings lead to one another count as one."""
    ways = turnings_onto(floor_cells(puzzle), puzzle[2])
    images = [_images(placements(puzzle), way) for way in ways]
    # The ways that lead the floor to itself are a group, so that layings that
    # are led to one another are led to the same ones.
    return len({_least_image(laying, images) for laying in layings(puzzle)})


def count_by_rows(puzzle):
    """Give how many layings there are, counted row by row."""
    return _states_by_rows(puzzle)[-1].get(0, 0)


def row_counts(puzzle):
    """Give, for each row, how many unlike states are left when it and all before are covered."""
    return tuple([len(states) for states in _states_by_rows(puzzle)])


def _images(known, way):
    """Give the dict from each placement to the one to which a way of turning leads it."""
    found = {}
    for kind, cells in known:
        found[(kind, cells)] = (kind, tuple(sorted([way[cell] for cell in cells])))
    return found


def _least_image(laying, images):
    """Give the first of the layings to which the ways of turning lead a laying."""
    return min([tuple(sorted([image[placement] for placement in laying])) for image in images])


def _states_by_rows(puzzle):
    """Give, for each row, the dict from each state behind it to how many ways lead there."""
    search = Search(puzzle)
    states = {search.start: 1}
    found = []
    for row in range(len(puzzle[0])):
        for cell in search.cells:
            if cell[0] == row:
                states = _states_behind(search, states, cell)
        found.append(states)
    return found


def _states_behind(search, states, cell):
    """Give the states that come from these, in which all before is covered, when a cell is covered."""
    found = {}
    for state, many in states.items():
        if not search.is_bare(state, cell):
            found[state] = found.get(state, 0) + many
            continue
        for placement, behind in search.steps(state):
            found[behind] = found.get(behind, 0) + many
    return found

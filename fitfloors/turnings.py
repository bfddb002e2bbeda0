"""Cells turned by quarters and flipped, each image in the place of its cell."""


def turned_cells(cells):
    """Give the images of cells turned by a quarter, north to the east."""
    return moved_home([(column, -row) for row, column in cells])


def flipped_cells(cells):
    """Give the images of cells with left and right exchanged."""
    return moved_home([(row, -column) for row, column in cells])


def moved_home(cells):
    """Give the images of cells moved to least row and column 0."""
    top = min([row for row, column in cells])
    left = min([column for row, column in cells])
    return [(row - top, column - left) for row, column in cells]


def set_home(cells):
    """Give the images of cells moved to least row and column 0, as an ascending tuple."""
    return tuple(sorted(moved_home(cells)))


def all_turnings(cells, is_flipped):
    """Give the images of cells under each way of turning, and of flipping if told."""
    found = _four_turnings(moved_home(cells))
    if is_flipped:
        found.extend(_four_turnings(flipped_cells(cells)))
    return found


def turnings_onto(cells, is_flipped):
    """Give, for each way that leads cells to themselves, the dict of where it leads each."""
    home = moved_home(cells)
    back = {image: cell for image, cell in zip(home, cells)}
    found = []
    for images in all_turnings(cells, is_flipped):
        if sorted(images) == sorted(home):
            found.append({cell: back[image] for cell, image in zip(cells, images)})
    return found


def _four_turnings(cells):
    found = [cells]
    for _ in range(3):
        found.append(turned_cells(found[-1]))
    return found

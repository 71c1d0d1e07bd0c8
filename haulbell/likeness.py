"""Likeness: whether two lists of rows leave the same at every bell on every store."""

from haulbell.boxes import NAMES
from haulbell.shadows import shadows


# Behind its last step a machine stays as it is.
def shadow_at(told, bell):
    return told[min(bell, len(told) - 1)]


def content_of(origin, cells):
    return cells[origin[1]] if origin[0] == "cell" else origin[1]


def first_box(one, other):
    for at, box in enumerate(NAMES):
        if one[at] != other[at]:
            return box
    return None


def first_cell(one, other, cells):
    for cell in range(len(cells)):
        if content_of(one[cell], cells) != content_of(other[cell], cells):
            return cell
    return None


# Two unlike origins differ where all contents are 0, or else they are two cells,
# or a cell and the number 0: then the least store at which they differ has a 1
# in the one cell, or in the later one of both, and 0 in all others. So no other
# stores need to be tried, and these are in order, from the least one on.
def stores_to_try(size):
    stores = [[0] * size]
    for cell in range(size - 1, -1, -1):
        stores.append([0] * cell + [1] + [0] * (size - cell - 1))
    return stores


def least_store(one, other):
    return [cells for cells in stores_to_try(len(one)) if first_cell(one, other, cells) is not None][0]


def parted(bell, one, other):
    box = first_box(one[0], other[0])
    if box is not None:
        # The boxes are the same for every store, so the least of all is the one.
        return ("parted", bell, [0] * len(one[1]), ("box", box))
    cells = least_store(one[1], other[1])
    return ("parted", bell, cells, ("cell", first_cell(one[1], other[1], cells)))


def alike(one, other, boxes, size):
    first = shadows(one, boxes, size)
    second = shadows(other, boxes, size)
    for bell in range(max(len(first), len(second))):
        left = shadow_at(first, bell)
        right = shadow_at(second, bell)
        if left != right:
            return parted(bell, left, right)
    return ("alike",)

"""Regions: where walks lead that cross no stitch, and the seams that part two cells."""

from sashiko.checks import need_cell
from sashiko.seams import seams


def beside(cloth, cell):
    """The cells beside a cell with no stitch between, a list."""
    x = cell[0]
    y = cell[1]
    found = []
    if x > 0 and not cloth.stitched("col", x - 1, y):
        found.append((x - 1, y))
    if y > 0 and not cloth.stitched("row", y - 1, x):
        found.append((x, y - 1))
    if y + 1 < cloth.tall() and not cloth.stitched("row", y, x):
        found.append((x, y + 1))
    if x + 1 < cloth.wide() and not cloth.stitched("col", x, y):
        found.append((x + 1, y))
    return found


def ways_to(cloth, goal):
    """For each cell of the goal's region the next one of a shortest path to it, None for the goal; a dict."""
    onward = {goal: None}
    cells = [goal]
    place = 0
    # The cells come in the order of their distance, so that no shorter path is found later on.
    while place < len(cells):
        here = cells[place]
        for cell in beside(cloth, here):
            if cell not in onward:
                onward[cell] = here
                cells.append(cell)
        place += 1
    return onward


def region(cloth, x, y):
    """The cells of the region of a cell, a rising list; NoCell."""
    need_cell(cloth, x, y)
    return sorted(ways_to(cloth, (x, y)))


def regions(cloth):
    """All regions, a list rising by their first cells."""
    found = []
    seen = {}
    for x in range(cloth.wide()):
        for y in range(cloth.tall()):
            if (x, y) not in seen:
                cells = region(cloth, x, y)
                found.append(cells)
                for cell in cells:
                    seen[cell] = True
    return found


def path(cloth, one, other):
    """The cells of a shortest walk from one cell to another that crosses no stitch, or None; NoCell."""
    need_cell(cloth, one[0], one[1])
    need_cell(cloth, other[0], other[1])
    onward = ways_to(cloth, other)
    if one not in onward:
        return None
    cells = []
    here = one
    while here is not None:
        cells.append(here)
        here = onward[here]
    return cells


def crossed(cloth, one, other):
    """The first points of the stitches that a walk from one cell to another crosses, a list."""
    found = []
    for k in range(min(one[0], other[0]), max(one[0], other[0])):
        if cloth.stitched("col", k, one[1]):
            found.append((k + 1, one[1]))
    for k in range(min(one[1], other[1]), max(one[1], other[1])):
        if cloth.stitched("row", k, other[0]):
            found.append((other[0], k + 1))
    return found


def fence(cloth, one, other):
    """The numbers of the seams that part two cells, a rising list; NoCell."""
    need_cell(cloth, one[0], one[1])
    need_cell(cloth, other[0], other[1])
    lines = [told[1] for told in seams(cloth)]
    number_at = {}
    for number, line in enumerate(lines):
        for point in line:
            number_at[point] = number
    # All walks tell the same, so that one will do.
    numbers = [number_at[point] for point in crossed(cloth, one, other)]
    return [number for number in range(len(lines)) if numbers.count(number) % 2 == 1]

"""What round seams close in, and which of them lies in which."""

from sashiko.checks import need_cell
from sashiko.seams import rounds


def box(line):
    """The tuple (least x, least y, greatest x, greatest y) of a round seam's points."""
    across = [point[0] for point in line]
    upward = [point[1] for point in line]
    return (min(across), min(upward), max(across), max(upward))


def walls(line):
    """For each row of cells that a round seam's stitches stand in, the list of their x; a dict."""
    found = {}
    # The last point, line[-1], is joined with the first one.
    for k in range(len(line)):
        one = line[k - 1]
        other = line[k]
        if one[0] == other[0]:
            found.setdefault(min(one[1], other[1]), []).append(one[0])
    return found


def inside(line):
    """The cells within a round seam, a rising list."""
    found = []
    for y, places in walls(line).items():
        marks = sorted(places)
        # A walk to the left crosses an odd number of stitches from between the first and
        # the second one, the third and the fourth one, and so on.
        for k in range(0, len(marks), 2):
            found.extend([(x, y) for x in range(marks[k], marks[k + 1])])
    return sorted(found)


def area(line):
    """The number of cells within a round seam."""
    return len(inside(line))


def numbers_around(lines):
    """For each cell within a round seam, the numbers of those around it, the least area first; a dict."""
    insides = [inside(line) for line in lines]
    found = {}
    for number in sorted(range(len(lines)), key=lambda place: len(insides[place])):
        for cell in insides[number]:
            found.setdefault(cell, []).append(number)
    return found


def nests(cloth):
    """For each round seam the number of the next one around it, or -1; a list."""
    lines = rounds(cloth)
    by_cell = numbers_around(lines)
    found = []
    for number, line in enumerate(lines):
        # From a seam's first point its stitches go to the right and up, so the cell there is within it.
        # Seams share no points, so of two round ones around a cell the lesser one lies in the other one.
        numbers = by_cell[line[0]]
        place = numbers.index(number) + 1
        found.append(numbers[place] if place < len(numbers) else -1)
    return found


def around(cloth, x, y):
    """The numbers of the round seams within which a cell is, the least area first; NoCell."""
    need_cell(cloth, x, y)
    return numbers_around(rounds(cloth)).get((x, y), [])

"""Seams: where the stitches of a cloth lead from point to point."""

from sashiko.checks import is_below
from sashiko.errors import NoPoint


def sewn_right(cloth, x, y):
    """Whether a stitch goes from the point (x, y) to the right, False where no line is."""
    if 0 < y < cloth.tall() and 0 <= x < cloth.wide():
        return cloth.stitched("row", y - 1, x)
    return False


def sewn_up(cloth, x, y):
    """Whether a stitch goes from the point (x, y) up, False where no line is."""
    if 0 < x < cloth.wide() and 0 <= y < cloth.tall():
        return cloth.stitched("col", x - 1, y)
    return False


def joined(cloth, point):
    """The points that a stitch joins with a point, a rising list; NoPoint."""
    x = point[0]
    y = point[1]
    if not is_below(x, cloth.wide() + 1) or not is_below(y, cloth.tall() + 1):
        raise NoPoint("there is no such point")
    found = []
    if sewn_right(cloth, x - 1, y):
        found.append((x - 1, y))
    if sewn_up(cloth, x, y - 1):
        found.append((x, y - 1))
    if sewn_up(cloth, x, y):
        found.append((x, y + 1))
    if sewn_right(cloth, x, y):
        found.append((x + 1, y))
    return found


def walk(cloth, start, onward):
    """The points from start on by way of onward, until no other stitch goes on or start comes again."""
    line = [start]
    here = onward
    while here != start:
        behind = line[-1]
        line.append(here)
        ways = [point for point in joined(cloth, here) if point != behind]
        if len(ways) == 0:
            return line
        here = ways[0]
    return line


def told_round(cloth, line):
    """The points of a round seam as they are told."""
    least = min(line)
    # Nothing of the seam lies to the left of its least point, so that its stitch along
    # the row leads to the right, to the greater one of the two points joined with it.
    return walk(cloth, least, joined(cloth, least)[-1])


def told_open(cloth, end):
    """The points of an open seam as they are told, from either one of its ends."""
    line = walk(cloth, end, joined(cloth, end)[0])
    if line[-1] < end:
        return list(reversed(line))
    return line


def seam(cloth, point):
    """The seam through a point, a pair (round, points), or None where it has no stitch; NoPoint."""
    ways = joined(cloth, point)
    if len(ways) == 0:
        return None
    line = walk(cloth, point, ways[0])
    # A walk along an open seam stops at the border, at a point with one stitch alone.
    if len(joined(cloth, line[-1])) == 1:
        return (False, told_open(cloth, line[-1]))
    return (True, told_round(cloth, line))


def first_point(told):
    """The first point of a seam, by which seams are told."""
    return told[1][0]


def seams(cloth):
    """All seams, a list rising by their first points."""
    found = []
    seen = {}
    for x in range(cloth.wide() + 1):
        for y in range(cloth.tall() + 1):
            told = None if (x, y) in seen else seam(cloth, (x, y))
            if told is not None:
                found.append(told)
                for point in told[1]:
                    seen[point] = True
    # An open seam may have lesser points than its ends, so the walk above meets seams in another order.
    return sorted(found, key=first_point)


def rounds(cloth):
    """The lists of points of the round seams, in their order."""
    return [told[1] for told in seams(cloth) if told[0]]

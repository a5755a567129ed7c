"""Rings: boards that are sewn round both ways, and the rounds that their stitches make."""

from sashiko.checks import is_below, is_side
from sashiko.cloth import Board, Cloth
from sashiko.errors import BadSize, NoPoint
from sashiko.picture import picture


def is_ring_side(count):
    """Whether a ring may be so many cells wide or tall."""
    return is_side(count) and count % 2 == 0


class Ring(Board):
    """A ring by the bits of its lines; it never changes."""

    def __init__(self, cols, rows):
        if not (is_ring_side(len(cols)) and is_ring_side(len(rows))):
            raise BadSize("the sides of a ring are even, from 2 to 40")
        Board.__init__(self, len(cols), len(rows), cols, rows)


def walk(ring, start):
    """The round from a point along its row, a triple (points, right, up)."""
    points = []
    right = 0
    up = 0
    here = start
    while len(points) == 0 or here != start:
        # The step tells the direction, not the points: on a ring two cells wide
        # right and left lead to the same point.
        across = 1 if ring.stitched("row", here[1], here[0]) else -1
        corner = ((here[0] + across) % ring.wide(), here[1])
        upward = 1 if ring.stitched("col", corner[0], corner[1]) else -1
        points.append(here)
        points.append(corner)
        right += across
        up += upward
        here = (corner[0], (corner[1] + upward) % ring.tall())
    return (points, right // ring.wide(), up // ring.tall())


def round_at(ring, point):
    """The round through a point, a triple (points, right, up); NoPoint."""
    if not is_below(point[0], ring.wide()) or not is_below(point[1], ring.tall()):
        raise NoPoint("there is no such point")
    points = walk(ring, point)[0]
    return walk(ring, min([(x, y) for x, y in points if (x + y) % 2 == 0]))


def ring_rounds(ring):
    """All rounds, a list rising by their first points."""
    found = []
    seen = {}
    for x in range(ring.wide()):
        # Every other point of a round has an even sum, so that these alone meet all rounds,
        # each one first at the point that it is told from.
        for y in range(x % 2, ring.tall(), 2):
            if (x, y) not in seen:
                told = walk(ring, (x, y))
                found.append(told)
                for point in told[0]:
                    seen[point] = True
    return found


def drift(ring):
    """The sums of right and of up of all rounds, a pair."""
    found = ring_rounds(ring)
    return (sum([told[1] for told in found]), sum([told[2] for told in found]))


def dyed(ring):
    """The table of the colours of a ring's cells, or None where it can't be dyed."""
    cols = ring.cols()
    rows = ring.rows()
    # A walk once round crosses all lines of one way at steps of one number; their count is even,
    # so that the stitches crossed are as odd or even as the sum of the bits.
    if sum(cols) % 2 == 1 or sum(rows) % 2 == 1:
        return None
    # The lines 0 lie at the borders of the ring when it is cut open to a cloth.
    return picture(Cloth(0, cols[1:], rows[1:]))

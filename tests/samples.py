"""What several tests share: sample cloths, and the document's rules said a second time, plainly."""

import itertools
import random

from sashiko import errors
from sashiko.cloth import Cloth

REFUSALS = (
    "BadSize", "BadBit", "NoCell", "NoLine", "NoStep", "NoPoint", "BadName", "Taken", "NoCloth",
    "Known", "NoFact", "NothingLeft", "BadNumber", "BadText", "Unfit", "Clash", "NoPicture",
)
SIXTY_FIGURES = 10 ** 60 - 1
NO_BITS = (-1, 2, 3, 10, -(10 ** 59), 10 ** 59, SIXTY_FIGURES, -SIXTY_FIGURES)
OTHER_WAYS = ("", "Col", "ROW", "cols", "rows", "col ", " row", "x", "y", "\n", "colrow", "0", "~" * 50)
BORDER_SIZES = ((1, 1), (1, 2), (2, 1), (2, 2), (1, 40), (40, 1), (2, 40), (40, 2), (40, 40), (39, 40), (40, 39))


def refused(test, name, call, *given):
    """Asserts that a call raises the refusal of that name and of no other one; gives the error."""
    with test.assertRaises(errors.SewError) as caught:
        call(*given)
    error = caught.exception
    held = [other for other in REFUSALS if isinstance(error, getattr(errors, other))]
    test.assertEqual(held, [name])
    test.assertIsInstance(error, ValueError)
    return error


def beyond(count):
    """Numbers that are not from 0 to below a count."""
    return (-1, -2, -count - 1, count, count + 1, count + 40, SIXTY_FIGURES, -SIXTY_FIGURES)


def small_parts():
    """The shades and bits of all cloths up to 3 by 4 and 4 by 3 cells."""
    for cols_count, rows_count in itertools.product(range(4), range(4)):
        if cols_count + rows_count < 6:
            for bits in itertools.product((0, 1), repeat=1 + cols_count + rows_count):
                yield bits[0], list(bits[1:1 + cols_count]), list(bits[1 + cols_count:])


def mixed_bits(source, count):
    return [source.randrange(2) for place in range(count)]


def large_parts():
    """Shades and bits of larger cloths, the same ones each time."""
    source = random.Random(20)
    sizes = BORDER_SIZES + ((3, 17), (8, 9), (13, 13), (25, 6), (31, 40), (40, 23), (40, 40), (40, 40))
    for wide, tall in sizes:
        yield source.randrange(2), mixed_bits(source, wide - 1), mixed_bits(source, tall - 1)
    for bits in ([0] * 39, [1] * 39, [0, 1] * 19 + [0], [1, 1, 0] * 13):
        yield 1, list(bits), list(bits)
        yield 0, list(bits), [0] * 39


def diamond_bits(half, first):
    """Bits that rise and fall alike, so that round seams lie within round seams around the middle."""
    rising = [(first + place) % 2 for place in range(half)]
    return rising + rising[::-1]


def nested_parts():
    """Shades and bits of cloths with round seams within round seams, up to ten deep."""
    for half, first in itertools.product((3, 4, 5, 8, 13, 19), (0, 1)):
        bits = diamond_bits(half, first)
        yield first, list(bits), list(bits)
    pieces = diamond_bits(5, 0) + diamond_bits(6, 0) + diamond_bits(4, 1)
    yield 0, pieces, list(pieces)
    yield 1, pieces, diamond_bits(7, 0)
    yield 0, diamond_bits(19, 0) + [0], [1] + diamond_bits(19, 0)


def every_side_parts():
    """Shades and bits of cloths of every width and height from 3 to 40."""
    source = random.Random(41)
    for side in range(3, 41):
        for wide, tall in ((side, side), (side, 43 - side), (side, source.randrange(3, 41))):
            yield source.randrange(2), mixed_bits(source, wide - 1), mixed_bits(source, tall - 1)


def all_parts():
    return list(small_parts()) + list(large_parts())


def all_cloths():
    return [Cloth(*parts) for parts in all_parts()]


def told_of(cloth):
    """The shade and bits that a cloth tells, as the triples of parts are written."""
    return cloth.shade(), cloth.cols(), cloth.rows()


def held_in(chest):
    """The names and cloths of a chest in their order."""
    return [(name, told_of(chest.cloth(name))) for name in chest.names()]


def spoil_all(told):
    """Changes each list in what was told, from within outwards."""
    if isinstance(told, (list, tuple)):
        for part in told:
            spoil_all(part)
    if isinstance(told, list):
        told.reverse()
        told.append(7)
        told[0] = None


def cells_of(cloth):
    """All cells of a cloth, rising."""
    return [(x, y) for x in range(cloth.wide()) for y in range(cloth.tall())]


def cells_beyond(cloth):
    """Cells that a cloth does not have, beside each border by one and far."""
    last_x, last_y = cloth.wide() - 1, cloth.tall() - 1
    found = [(x, y) for x in beyond(cloth.wide()) for y in (0, last_y, -1, cloth.tall(), SIXTY_FIGURES)]
    return found + [(x, y) for y in beyond(cloth.tall()) for x in (0, last_x)]


def lines_of(cols, rows):
    """All lines as triples (way, k, bit)."""
    return [("col", k, bit) for k, bit in enumerate(cols)] + [("row", k, bit) for k, bit in enumerate(rows)]


def ends_of(way, k, step):
    """The two points that a step goes between, as point 5 tells them."""
    if way == "col":
        return (k + 1, step), (k + 1, step + 1)
    return (step, k + 1), (step + 1, k + 1)


def stitches_of(cols, rows):
    """All stitches as pairs of points, as points 5 and 6 tell them."""
    found = []
    for way, k, bit in lines_of(cols, rows):
        steps = len(rows) + 1 if way == "col" else len(cols) + 1
        found.extend(ends_of(way, k, step) for step in range(steps) if step % 2 != bit % 2)
    return found


def neighbours_of(cols, rows):
    """For each point of a cloth the rising list of those joined with it."""
    near = {(x, y): [] for x in range(len(cols) + 2) for y in range(len(rows) + 2)}
    for one, other in stitches_of(cols, rows):
        near[one].append(other)
        near[other].append(one)
    return {point: sorted(others) for point, others in near.items()}

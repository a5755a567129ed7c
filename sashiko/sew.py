"""Cloths of cloths: mirrored, turned, put to, cut, parted and sewn together."""

from sashiko.checks import is_below, is_bit, is_side
from sashiko.cloth import Cloth
from sashiko.errors import BadBit, BadSize, NoLine, Unfit


def shifted(bits, steps):
    """The bits with which lines go on as they are when their steps are numbered from a later one on."""
    return [(bit + steps) % 2 for bit in bits]


def mirrored(cloth):
    """The cloth with left and right exchanged."""
    last = cloth.wide() - 1
    # Of the lines across, the last step is the first one now.
    return Cloth(cloth.colour(last, 0), list(reversed(cloth.cols())), shifted(cloth.rows(), last))


def transposed(cloth):
    """The cloth with columns and rows exchanged."""
    return Cloth(cloth.shade(), cloth.rows(), cloth.cols())


def backed(cloth):
    """The cloth with stitches and bare steps exchanged."""
    return Cloth(cloth.shade(), shifted(cloth.cols(), 1), shifted(cloth.rows(), 1))


def with_bits(cloth, way, bits):
    """The cloth with other bits of the lines of one way."""
    if way == "col":
        return Cloth(cloth.shade(), bits, cloth.rows())
    return Cloth(cloth.shade(), cloth.cols(), bits)


def turned(cloth, way, k):
    """The cloth with the other bit of a line; NoLine."""
    other = 1 - cloth.bit(way, k)
    bits = list(cloth.bits_along(way))
    bits[k] = other
    return with_bits(cloth, way, bits)


def put(cloth, way, k, bit):
    """The cloth with a line of that bit put in as number k; NoLine, BadBit, BadSize."""
    bits = list(cloth.bits_along(way))
    if not is_below(k, len(bits) + 1):
        raise NoLine("a line is put in at 0 to the count of lines")
    if not is_bit(bit):
        raise BadBit("the bit of a line is 0 or 1")
    bits.insert(k, bit)
    return with_bits(cloth, way, bits)


def cut(cloth, way, k):
    """The cloth with a line cut out; NoLine."""
    # Asked for its refusal: pop alone would take numbers below nought too.
    cloth.bit(way, k)
    bits = list(cloth.bits_along(way))
    bits.pop(k)
    return with_bits(cloth, way, bits)


def parted_up(cloth, k):
    """The two parts of a cloth to the left and to the right of a line that goes up, a pair."""
    behind = k + 1
    left = Cloth(cloth.shade(), cloth.cols()[:k], cloth.rows())
    right = Cloth(cloth.colour(behind, 0), cloth.cols()[behind:], shifted(cloth.rows(), behind))
    return (left, right)


def parted(cloth, way, k):
    """The two parts of a cloth on either side of a line, a pair; NoLine."""
    # Asked for its refusal alone.
    cloth.bit(way, k)
    if way == "col":
        return parted_up(cloth, k)
    parts = parted_up(transposed(cloth), k)
    return (transposed(parts[0]), transposed(parts[1]))


def sewn_beside(one, other):
    """The cloth of two, the second one to the right of the first one; BadSize, Unfit."""
    if one.tall() != other.tall() or not is_side(one.wide() + other.wide()):
        raise BadSize("the sides that meet are alike, and no cloth is beyond 40 cells")
    coming = shifted(one.rows(), one.wide())
    for k, bit in enumerate(other.rows()):
        if bit != coming[k]:
            raise Unfit(k)
    between = (one.colour(one.wide() - 1, 0) + other.shade()) % 2
    return Cloth(one.shade(), one.cols() + [between] + other.cols(), one.rows())


def sewn_together(one, other, way):
    """The cloth of two, the second one to the right of the first one or above it; NoLine, BadSize, Unfit."""
    if way == "col":
        return sewn_beside(one, other)
    if way == "row":
        return transposed(sewn_beside(transposed(one), transposed(other)))
    raise NoLine("a way is col or row")

"""Cloths: boards of cells with a bit for each line between them."""

from sashiko.checks import all_bits, is_below, is_bit, is_side, need_cell
from sashiko.errors import BadBit, BadSize, NoLine, NoStep


class Board:
    """What a cloth and a ring have in common: how wide and tall it is, and lines with a bit each."""

    def __init__(self, wide, tall, cols, rows):
        if not (all_bits(cols) and all_bits(rows)):
            raise BadBit("the bits of lines are 0 or 1")
        self.columns_count = wide
        self.rows_count = tall
        # Tuples, so that no list handed in is kept and none that is told is our own.
        self.col_bits = tuple(cols)
        self.row_bits = tuple(rows)

    def wide(self):
        """How many columns of cells there are."""
        return self.columns_count

    def tall(self):
        """How many rows of cells there are."""
        return self.rows_count

    def cols(self):
        """The bits of the lines that go up, a list."""
        return list(self.col_bits)

    def rows(self):
        """The bits of the lines that go to the right, a list."""
        return list(self.row_bits)

    def bits_along(self, way):
        """The bits of the lines of one way, a tuple; NoLine."""
        if way == "col":
            return self.col_bits
        if way == "row":
            return self.row_bits
        raise NoLine("a way is col or row")

    def bit(self, way, k):
        """The bit of a line; NoLine."""
        bits = self.bits_along(way)
        if not is_below(k, len(bits)):
            raise NoLine("there is no line of that number")
        return bits[k]

    def stitched(self, way, k, step):
        """Whether a step of a line is a stitch; NoLine, NoStep."""
        line_bit = self.bit(way, k)
        steps = self.tall() if way == "col" else self.wide()
        if not is_below(step, steps):
            raise NoStep("the line has no step of that number")
        return (step + line_bit) % 2 == 1


class Cloth(Board):
    """A cloth by its shade and the bits of its lines; it never changes."""

    def __init__(self, shade, cols, rows):
        if not (is_side(len(cols) + 1) and is_side(len(rows) + 1)):
            raise BadSize("a cloth has at most 39 lines each way")
        if not is_bit(shade):
            raise BadBit("a shade is 0 or 1")
        Board.__init__(self, len(cols) + 1, len(rows) + 1, cols, rows)
        self.first_colour = shade

    def shade(self):
        """The colour of the cell (0, 0)."""
        return self.first_colour

    def colour(self, x, y):
        """The colour of a cell; NoCell."""
        need_cell(self, x, y)
        # The walk goes right along the row 0, over steps 0, then up the column x, over steps x:
        # each of the y steps up adds x to its line's bit.
        stitches = sum(self.col_bits[:x]) + sum(self.row_bits[:y]) + x * y
        return (self.first_colour + stitches) % 2


def alike(one, other):
    """Whether the shades and the bits of two cloths are the same."""
    return one.shade() == other.shade() and one.cols() == other.cols() and one.rows() == other.rows()

"""What counts as a number, a bit, a side or a cell, for the refusals of every module."""

from sashiko.errors import NoCell

LONGEST_SIDE = 40


def is_number(value):
    """Whether a value is a whole number, True and False being none."""
    return isinstance(value, int) and not isinstance(value, bool)


def is_below(value, bound):
    """Whether a value is a number from 0 to below the bound."""
    return is_number(value) and 0 <= value < bound


def is_bit(value):
    """Whether a value is 0 or 1."""
    return is_below(value, 2)


def all_bits(values):
    """Whether each member of a list is a bit."""
    return all([is_bit(value) for value in values])


def is_side(count):
    """Whether a board may be so many cells wide or tall."""
    return is_below(count, LONGEST_SIDE + 1) and count > 0


def need_cell(board, x, y):
    """Refuses a cell that a board, which tells how wide and tall it is, does not have; NoCell."""
    if not is_below(x, board.wide()) or not is_below(y, board.tall()):
        raise NoCell("there is no such cell")

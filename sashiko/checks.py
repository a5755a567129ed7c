"""What counts as a number or a bit, for the refusals of every module."""


def is_number(value):
    """Whether a value is a whole number, True and False being none."""
    return isinstance(value, int) and not isinstance(value, bool)


def is_below(value, bound):
    """Whether a value is a number from 0 to below the bound."""
    return is_number(value) and 0 <= value < bound


def is_bit(value):
    """Whether a value is 0 or 1."""
    return is_below(value, 2)


def all_bits(values):
    """Whether each member of a list is a bit."""
    return all([is_bit(value) for value in values])

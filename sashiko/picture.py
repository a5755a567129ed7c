"""Pictures: the tables of the colours of cloths."""

from sashiko.checks import all_bits, is_side
from sashiko.cloth import Cloth
from sashiko.errors import BadBit, BadSize, NoPicture


def colours_across(cloth, y):
    """The colours of a row of cells, a list."""
    return [cloth.colour(x, y) for x in range(cloth.wide())]


def picture(cloth):
    """The table of a cloth's colours, a list of rows."""
    return [colours_across(cloth, y) for y in range(cloth.tall())]


def need_table(table):
    """Refuses what is no table of bits; BadSize, BadBit."""
    lengths = [len(row) for row in table]
    if not is_side(len(lengths)) or not is_side(lengths[0]) or lengths.count(lengths[0]) != len(lengths):
        raise BadSize("a table has 1 to 40 rows of one length from 1 to 40")
    if not all([all_bits(row) for row in table]):
        raise BadBit("the numbers of a table are 0 or 1")


def is_even(table, x, y):
    """Whether an even count of the four numbers of a block is 1."""
    return (sum(table[y][x:x + 2]) + sum(table[y + 1][x:x + 2])) % 2 == 0


def even_blocks(table):
    """The pairs (x, y) of all even blocks, a list by rising y and then x; BadSize, BadBit."""
    need_table(table)
    found = []
    for y in range(len(table) - 1):
        found.extend([(x, y) for x in range(len(table[y]) - 1) if is_even(table, x, y)])
    return found


def unlike(numbers):
    """For each number of a list but the last one 1 where the next one is another one, else 0; a list."""
    return [(numbers[k] + numbers[k + 1]) % 2 for k in range(len(numbers) - 1)]


def cloth_of(table):
    """The cloth whose picture a table is; BadSize, BadBit, NoPicture."""
    blocks = even_blocks(table)
    if len(blocks) > 0:
        first = blocks[0]
        raise NoPicture(first[0], first[1])
    # A line's step 0 is a stitch just where its bit is 1, so the first row and column tell all bits.
    return Cloth(table[0][0], unlike(table[0]), unlike([row[0] for row in table]))

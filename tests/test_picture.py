"""Point 13 and the interface's sashiko/picture.py."""

import itertools
import random
import unittest

from sashiko.cloth import Cloth, alike
from sashiko.picture import cloth_of, even_blocks, picture
from samples import NO_BITS, all_parts, every_side_parts, large_parts, mixed_bits, nested_parts, refused, told_of


def sample_parts():
    return all_parts() + list(every_side_parts()) + list(nested_parts())


def small_tables():
    """All tables of bits up to 3 by 3 numbers."""
    for wide, tall in itertools.product((1, 2, 3), (1, 2, 3)):
        for bits in itertools.product((0, 1), repeat=wide * tall):
            yield [list(bits[wide * y:wide * (y + 1)]) for y in range(tall)]


def mixed_tables():
    """Larger tables of bits, most of which are no pictures, the same ones each time."""
    source = random.Random(13)
    for wide, tall in ((1, 40), (40, 1), (2, 40), (40, 2), (7, 5), (5, 8), (19, 23), (40, 40)):
        yield [mixed_bits(source, wide) for y in range(tall)]


def spoilt_pictures():
    """Pictures with one number turned, with its place."""
    source = random.Random(31)
    for parts in large_parts():
        table = picture(Cloth(*parts))
        x, y = source.randrange(len(table[0])), source.randrange(len(table))
        table[y][x] = 1 - table[y][x]
        yield table, x, y


def even_ones(table):
    """The even blocks of a table by the count of the ones in them."""
    found = []
    for y, x in itertools.product(range(len(table) - 1), range(len(table[0]) - 1)):
        four = [table[y][x], table[y][x + 1], table[y + 1][x], table[y + 1][x + 1]]
        if four.count(1) in (0, 2, 4):
            found.append((x, y))
    return found


def copy_of(table):
    return [list(row) for row in table]


class Pictures(unittest.TestCase):
    def test_a_picture_written_out(self):
        self.assertEqual(picture(Cloth(1, [0, 1], [1, 0])), [[1, 1, 0], [0, 1, 1], [0, 0, 1]])
        self.assertEqual(picture(Cloth(0, [1, 1, 0], [])), [[0, 1, 0, 0]])
        self.assertEqual(picture(Cloth(1, [], [1, 0])), [[1], [0], [0]])
        self.assertEqual(picture(Cloth(1, [], [])), [[1]])

    def test_every_cell(self):
        for parts in sample_parts():
            cloth = Cloth(*parts)
            table = picture(cloth)
            self.assertEqual({type(row) for row in table} | {type(table)}, {list})
            self.assertEqual([len(row) for row in table], [cloth.wide()] * cloth.tall())
            for y, row in enumerate(table):
                self.assertEqual(row, [cloth.colour(x, y) for x in range(cloth.wide())])

    def test_the_told_table_changed(self):
        for parts in large_parts():
            cloth = Cloth(*parts)
            ahead = copy_of(picture(cloth))
            told = picture(cloth)
            for row in told:
                row[0] = 7
                row.append(1)
            told.reverse()
            told.append([])
            self.assertEqual(picture(cloth), ahead)
            self.assertEqual(told_of(cloth), parts)

    def test_the_rows_are_lists_of_their_own(self):
        table = picture(Cloth(0, [0, 0], [0, 0, 0]))
        table[0][0] = 9
        self.assertEqual([row[0] for row in table], [9, 0, 0, 0])


class EvenBlocks(unittest.TestCase):
    def test_written_out(self):
        self.assertEqual(even_blocks([[0, 0], [0, 0]]), [(0, 0)])
        self.assertEqual(even_blocks([[1, 1], [1, 1]]), [(0, 0)])
        self.assertEqual(even_blocks([[1, 0], [1, 0]]), [(0, 0)])
        self.assertEqual(even_blocks([[1, 0], [0, 0]]), [])
        self.assertEqual(even_blocks([[1, 1], [0, 1]]), [])

    def test_the_order_goes_by_y_and_then_x(self):
        blocks = [(0, 0), (1, 0), (2, 0), (0, 1), (1, 1), (2, 1)]
        self.assertEqual(even_blocks([[0] * 4, [0] * 4, [0] * 4]), blocks)
        self.assertEqual(even_blocks([[0, 0, 0], [0, 0, 1], [0, 0, 0]]), [(0, 0), (0, 1)])
        self.assertEqual(even_blocks([[0, 0, 0], [1, 0, 0], [0, 0, 0]]), [(1, 0), (1, 1)])
        self.assertEqual(even_blocks([[1, 0, 0], [0, 0, 0], [0, 0, 1]]), [(1, 0), (0, 1)])

    def test_one_row_and_one_column_have_none(self):
        for count in range(1, 41):
            self.assertEqual(even_blocks([[1] * count]), [])
            self.assertEqual(even_blocks([[0] for place in range(count)]), [])

    def test_all_small_tables_and_larger_ones(self):
        tables = list(small_tables()) + list(mixed_tables()) + [table for table, x, y in spoilt_pictures()]
        for table in tables:
            given = copy_of(table)
            told = even_blocks(given)
            self.assertIs(type(told), list)
            self.assertLessEqual({type(block) for block in told}, {tuple})
            self.assertEqual(told, even_ones(table))
            self.assertEqual(given, table)

    def test_pictures_have_none(self):
        for parts in sample_parts():
            self.assertEqual(even_blocks(picture(Cloth(*parts))), [])

    def test_the_told_list_changed(self):
        table = [[0, 0, 0], [0, 0, 1], [0, 0, 0]]
        told = even_blocks(table)
        told.reverse()
        told.append((9, 9))
        self.assertEqual(even_blocks(table), [(0, 0), (0, 1)])

    def test_the_table_handed_in_changed_afterwards(self):
        table = [[0, 0], [0, 0]]
        told = even_blocks(table)
        table[0][0] = 1
        self.assertEqual(told, [(0, 0)])
        self.assertEqual(even_blocks(table), [])


class Refusals(unittest.TestCase):
    """What even_blocks and cloth_of refuse alike."""

    def both_refuse(self, name, table):
        ahead = copy_of(table)
        for call in (even_blocks, cloth_of):
            refused(self, name, call, table)
            self.assertEqual(table, ahead)

    def test_no_rows(self):
        self.both_refuse("BadSize", [])

    def test_rows_of_none(self):
        for count in (1, 2, 40, 41):
            self.both_refuse("BadSize", [[] for place in range(count)])

    def test_too_many(self):
        for count in (41, 42, 80, 400):
            for other in (1, 2, 40, 41):
                self.both_refuse("BadSize", [[1] * other for place in range(count)])
                self.both_refuse("BadSize", [[0] * count for place in range(other)])

    def test_forty_are_not_too_many(self):
        table = picture(Cloth(0, [0, 1, 1] * 13, [1, 0, 0] * 13))
        self.assertEqual((len(table), len(table[0]), even_blocks(table)), (40, 40, []))

    def test_rows_of_unlike_lengths(self):
        for wide, tall in ((1, 2), (3, 3), (40, 40), (2, 7)):
            for place in range(tall):
                for length in (wide - 1, wide + 1, 0):
                    table = [[1] * wide for row in range(tall)]
                    table[place] = [1] * length
                    self.both_refuse("BadSize", table)

    def test_unlike_lengths_that_come_to_the_same(self):
        self.both_refuse("BadSize", [[0, 1], [1], [0, 1, 1]])
        self.both_refuse("BadSize", [[0, 1], [1, 0], [0], [1]])

    def test_no_bit_at_any_place(self):
        for wide, tall in ((1, 1), (1, 5), (5, 1), (4, 3)):
            for x, y, wrong in itertools.product(range(wide), range(tall), NO_BITS):
                table = picture(Cloth(0, [1] * (wide - 1), [0] * (tall - 1)))
                table[y][x] = wrong
                self.both_refuse("BadBit", table)

    def test_no_bit_in_the_largest_table(self):
        for x, y in itertools.product((0, 1, 20, 38, 39), (0, 1, 20, 38, 39)):
            table = [[0] * 40 for row in range(40)]
            table[y][x] = 2
            self.both_refuse("BadBit", table)

    def test_true_and_false_are_no_bits(self):
        self.both_refuse("BadBit", [[True]])
        self.both_refuse("BadBit", [[0, 1], [False, 0]])

    def test_bad_size_comes_ahead_of_bad_bit(self):
        for wrong in NO_BITS:
            self.both_refuse("BadSize", [[wrong, 0], [1]])
            self.both_refuse("BadSize", [[0], [1, wrong]])
            self.both_refuse("BadSize", [[wrong] * 41])
            self.both_refuse("BadSize", [[wrong] for place in range(41)])
            self.both_refuse("BadSize", [[wrong], []])


class ClothsOfTables(unittest.TestCase):
    def test_the_cloth_of_a_picture_is_the_first_cloth(self):
        for parts in sample_parts():
            cloth = Cloth(*parts)
            self.assertTrue(alike(cloth_of(picture(cloth)), cloth))

    def test_all_small_tables_and_larger_ones(self):
        told = {True: 0, False: 0}
        for table in list(small_tables()) + list(mixed_tables()) + [table for table, x, y in spoilt_pictures()]:
            blocks = even_ones(table)
            told[blocks == []] += 1
            if blocks:
                error = refused(self, "NoPicture", cloth_of, table)
                self.assertEqual((error.x, error.y), blocks[0])
            else:
                self.assertEqual(picture(cloth_of(table)), table)
        self.assertGreater(told[True], 50)
        self.assertGreater(told[False], 50)

    def test_the_first_even_block_goes_by_y_and_then_x(self):
        for table, x, y in spoilt_pictures():
            if len(table) > 1 and len(table[0]) > 1:
                error = refused(self, "NoPicture", cloth_of, table)
                self.assertEqual((error.x, error.y), (max(x - 1, 0), max(y - 1, 0)))
        error = refused(self, "NoPicture", cloth_of, [[1, 0, 0], [0, 0, 0], [0, 0, 1]])
        self.assertEqual((error.x, error.y), (1, 0))
        self.assertEqual([type(error.x), type(error.y)], [int, int])

    def test_one_row_and_one_column_are_always_pictures(self):
        for table in itertools.chain(mixed_tables(), small_tables()):
            row, column = [list(table[0])], [[line[0]] for line in table]
            self.assertEqual(picture(cloth_of(row)), row)
            self.assertEqual(picture(cloth_of(column)), column)

    def test_two_rows_and_two_columns_may_be_none(self):
        for count in range(2, 41):
            flat = [[0] * count for row in range(2)]
            error = refused(self, "NoPicture", cloth_of, flat)
            self.assertEqual((error.x, error.y), (0, 0))
            tower = picture(Cloth(0, [0], [1] * (count - 1)))
            tower[-1][1] = 1 - tower[-1][1]
            error = refused(self, "NoPicture", cloth_of, tower)
            self.assertEqual((error.x, error.y), (0, count - 2))

    def test_the_table_is_not_changed(self):
        for table in list(small_tables()) + list(mixed_tables()):
            given = copy_of(table)
            if even_ones(table):
                refused(self, "NoPicture", cloth_of, given)
            else:
                cloth_of(given)
            self.assertEqual(given, table)

    def test_the_table_handed_in_changed_afterwards(self):
        for parts in large_parts():
            table = picture(Cloth(*parts))
            cloth = cloth_of(table)
            for row in table:
                row[0] = 1 - row[0]
                row.append(1)
            table.append([])
            self.assertEqual(told_of(cloth), parts)


if __name__ == "__main__":
    unittest.main()

"""Points 1 to 7 and the interface's sashiko/cloth.py."""

import unittest

from sashiko.cloth import Cloth, alike
from samples import (
    BORDER_SIZES, NO_BITS, OTHER_WAYS, SIXTY_FIGURES, all_parts, beyond, ends_of, large_parts, lines_of, refused,
    stitches_of,
)


class Making(unittest.TestCase):
    def test_what_was_handed_in_is_told(self):
        for shade, cols, rows in all_parts():
            cloth = Cloth(shade, list(cols), list(rows))
            self.assertEqual((cloth.shade(), cloth.cols(), cloth.rows()), (shade, cols, rows))
            self.assertEqual((cloth.wide(), cloth.tall()), (len(cols) + 1, len(rows) + 1))

    def test_sizes_at_the_bounds(self):
        for wide, tall in BORDER_SIZES:
            cloth = Cloth(0, [1] * (wide - 1), [0] * (tall - 1))
            self.assertEqual((cloth.wide(), cloth.tall()), (wide, tall))

    def test_kinds(self):
        for shade, cols, rows in large_parts():
            cloth = Cloth(shade, cols, rows)
            for number in [cloth.shade(), cloth.wide(), cloth.tall()] + cloth.cols() + cloth.rows():
                self.assertIs(type(number), int)
            self.assertIs(type(cloth.cols()), list)
            self.assertIs(type(cloth.rows()), list)

    def test_lists_that_are_too_long(self):
        for count in (40, 41, 79, 400):
            refused(self, "BadSize", Cloth, 0, [0] * count, [])
            refused(self, "BadSize", Cloth, 0, [], [1] * count)
            refused(self, "BadSize", Cloth, 1, [0] * count, [1] * count)
            refused(self, "BadSize", Cloth, 1, [0] * 39, [1] * count)

    def test_lists_of_thirty_nine_are_not_too_long(self):
        self.assertEqual(Cloth(0, [1] * 39, [0] * 39).cols(), [1] * 39)

    def test_a_shade_that_is_no_bit(self):
        for wrong in NO_BITS:
            refused(self, "BadBit", Cloth, wrong, [], [])
            refused(self, "BadBit", Cloth, wrong, [0, 1], [1] * 39)

    def test_no_bit_at_any_place_of_a_list(self):
        for place in range(39):
            for wrong in NO_BITS:
                bits = [1, 0, 1] * 13
                bits[place] = wrong
                refused(self, "BadBit", Cloth, 0, bits, [])
                refused(self, "BadBit", Cloth, 0, [], bits)
                refused(self, "BadBit", Cloth, 1, bits, bits)

    def test_true_and_false_are_no_bits(self):
        for wrong in (True, False):
            refused(self, "BadBit", Cloth, wrong, [], [])
            refused(self, "BadBit", Cloth, 0, [1, wrong], [])
            refused(self, "BadBit", Cloth, 0, [], [wrong])

    def test_too_long_comes_ahead_of_no_bit(self):
        for wrong in NO_BITS:
            refused(self, "BadSize", Cloth, wrong, [0] * 40, [])
            refused(self, "BadSize", Cloth, wrong, [], [0] * 40)
            refused(self, "BadSize", Cloth, 0, [wrong] + [0] * 39, [])
            refused(self, "BadSize", Cloth, 0, [wrong], [0] * 40)
            refused(self, "BadSize", Cloth, 0, [0] * 40, [wrong])
            refused(self, "BadSize", Cloth, 0, [], [0] * 39 + [wrong])


def all_answers(cloth):
    """All that a cloth tells."""
    wide, tall = cloth.wide(), cloth.tall()
    told = [cloth.shade(), wide, tall, cloth.cols(), cloth.rows()]
    told.append([cloth.bit("col", k) for k in range(wide - 1)])
    told.append([cloth.bit("row", k) for k in range(tall - 1)])
    told.append([cloth.stitched("col", k, step) for k in range(wide - 1) for step in range(tall)])
    told.append([cloth.stitched("row", k, step) for k in range(tall - 1) for step in range(wide)])
    told.append([cloth.colour(x, y) for x in range(wide) for y in range(tall)])
    return told


def spoil(numbers):
    """Changes a list in every way."""
    numbers.reverse()
    numbers.append(7)
    numbers[0] = 1 - numbers[0]
    numbers.insert(0, 1)


class Unchanging(unittest.TestCase):
    def test_lists_handed_in_are_not_changed(self):
        for shade, cols, rows in all_parts():
            given_cols, given_rows = list(cols), list(rows)
            all_answers(Cloth(shade, given_cols, given_rows))
            self.assertEqual((given_cols, given_rows), (cols, rows))

    def test_lists_handed_in_are_changed_afterwards(self):
        for shade, cols, rows in all_parts():
            cloth = Cloth(shade, cols, rows)
            ahead = all_answers(cloth)
            spoil(cols)
            spoil(rows)
            self.assertEqual(all_answers(cloth), ahead)

    def test_lists_told_are_changed_afterwards(self):
        for shade, cols, rows in all_parts():
            cloth = Cloth(shade, cols, rows)
            ahead = all_answers(cloth)
            spoil(cloth.cols())
            spoil(cloth.rows())
            self.assertEqual(all_answers(cloth), ahead)

    def test_one_list_handed_in_twice(self):
        bits = [1, 0, 1]
        cloth = Cloth(1, bits, bits)
        bits[0] = 0
        cloth.cols().clear()
        self.assertEqual((cloth.cols(), cloth.rows()), ([1, 0, 1], [1, 0, 1]))

    def test_refusals_leave_all_as_it_was(self):
        cloth = Cloth(1, [0, 1], [1])
        ahead = all_answers(cloth)
        refused(self, "NoLine", cloth.bit, "col", 2)
        refused(self, "NoStep", cloth.stitched, "row", 0, 3)
        refused(self, "NoCell", cloth.colour, 3, 0)
        self.assertEqual(all_answers(cloth), ahead)

    def test_a_refused_list_is_not_changed(self):
        bits = [0, 2, 1]
        refused(self, "BadBit", Cloth, 0, bits, [1])
        self.assertEqual(bits, [0, 2, 1])


class Lines(unittest.TestCase):
    def test_the_bit_of_every_line(self):
        for shade, cols, rows in all_parts():
            cloth = Cloth(shade, cols, rows)
            for way, k, bit in lines_of(cols, rows):
                self.assertEqual(cloth.bit(way, k), bit)
                self.assertIs(type(cloth.bit(way, k)), int)

    def test_every_step_of_every_line(self):
        for shade, cols, rows in all_parts():
            cloth = Cloth(shade, cols, rows)
            for way, k, bit in lines_of(cols, rows):
                for step in range(cloth.tall() if way == "col" else cloth.wide()):
                    self.assertIs(cloth.stitched(way, k, step), (step + bit) in range(1, 42, 2))

    def test_steps_of_a_cloth_written_out(self):
        cloth = Cloth(1, [0, 1], [1, 0, 0])
        self.assertEqual([cloth.stitched("col", 0, step) for step in range(4)], [False, True, False, True])
        self.assertEqual([cloth.stitched("col", 1, step) for step in range(4)], [True, False, True, False])
        self.assertEqual([cloth.stitched("row", 0, step) for step in range(3)], [True, False, True])
        self.assertEqual([cloth.stitched("row", 2, step) for step in range(3)], [False, True, False])

    def test_another_text_is_no_way(self):
        for shade, cols, rows in (1, [], []), (0, [1, 0], [1]), (1, [0] * 39, [1] * 39):
            cloth = Cloth(shade, cols, rows)
            for way in OTHER_WAYS:
                refused(self, "NoLine", cloth.bit, way, 0)
                refused(self, "NoLine", cloth.stitched, way, 0, 0)
                refused(self, "NoLine", cloth.stitched, way, -1, -1)

    def test_numbers_of_lines_beyond(self):
        for shade, cols, rows in large_parts():
            cloth = Cloth(shade, cols, rows)
            for way, count in (("col", len(cols)), ("row", len(rows))):
                for k in beyond(count):
                    refused(self, "NoLine", cloth.bit, way, k)
                    refused(self, "NoLine", cloth.stitched, way, k, 0)

    def test_numbers_of_steps_beyond(self):
        for shade, cols, rows in large_parts():
            cloth = Cloth(shade, cols, rows)
            for way, k, bit in lines_of(cols, rows):
                for step in beyond(len(rows) + 1 if way == "col" else len(cols) + 1):
                    refused(self, "NoStep", cloth.stitched, way, k, step)

    def test_no_line_comes_ahead_of_no_step(self):
        cloth = Cloth(0, [1, 0], [1])
        for wrong in (-1, 40, SIXTY_FIGURES, -SIXTY_FIGURES):
            refused(self, "NoLine", cloth.stitched, "col", 2, wrong)
            refused(self, "NoLine", cloth.stitched, "row", -1, wrong)
            refused(self, "NoLine", cloth.stitched, "up", 0, wrong)

    def test_steps_up_go_by_the_height_and_steps_across_by_the_width(self):
        cloth = Cloth(0, [0], [0] * 39)
        self.assertTrue(cloth.stitched("col", 0, 39))
        refused(self, "NoStep", cloth.stitched, "row", 0, 2)
        cloth = Cloth(0, [0] * 39, [0])
        self.assertTrue(cloth.stitched("row", 0, 39))
        refused(self, "NoStep", cloth.stitched, "col", 0, 2)


class Colours(unittest.TestCase):
    def test_colours_of_cloths_written_out(self):
        cloth = Cloth(1, [0, 1], [1, 0])
        self.assertEqual([cloth.colour(x, 0) for x in range(3)], [1, 1, 0])
        self.assertEqual([cloth.colour(x, 1) for x in range(3)], [0, 1, 1])
        self.assertEqual([cloth.colour(x, 2) for x in range(3)], [0, 0, 1])

    def test_the_first_cell_has_the_shade(self):
        for shade, cols, rows in all_parts():
            self.assertEqual(Cloth(shade, cols, rows).colour(0, 0), shade)

    def test_cells_side_by_side(self):
        # Each step of each line lies between two cells, so walks of every form are held to the rule.
        for shade, cols, rows in all_parts():
            cloth = Cloth(shade, cols, rows)
            sewn = dict.fromkeys(stitches_of(cols, rows))
            for way, k, bit in lines_of(cols, rows):
                for step in range(cloth.tall() if way == "col" else cloth.wide()):
                    one = (k, step) if way == "col" else (step, k)
                    other = (k + 1, step) if way == "col" else (step, k + 1)
                    unlike = cloth.colour(*one) != cloth.colour(*other)
                    self.assertEqual(unlike, ends_of(way, k, step) in sewn)

    def test_colours_are_bits(self):
        for shade, cols, rows in large_parts():
            cloth = Cloth(shade, cols, rows)
            for x in range(cloth.wide()):
                for y in range(cloth.tall()):
                    self.assertIn(cloth.colour(x, y), (0, 1))
                    self.assertIs(type(cloth.colour(x, y)), int)

    def test_cells_beyond(self):
        for shade, cols, rows in large_parts():
            cloth = Cloth(shade, cols, rows)
            for x in beyond(cloth.wide()):
                refused(self, "NoCell", cloth.colour, x, 0)
                refused(self, "NoCell", cloth.colour, x, cloth.tall() - 1)
                refused(self, "NoCell", cloth.colour, x, -1)
            for y in beyond(cloth.tall()):
                refused(self, "NoCell", cloth.colour, 0, y)
                refused(self, "NoCell", cloth.colour, cloth.wide() - 1, y)
                refused(self, "NoCell", cloth.colour, SIXTY_FIGURES, y)


class Alike(unittest.TestCase):
    def test_the_same(self):
        for shade, cols, rows in all_parts():
            one = Cloth(shade, cols, rows)
            self.assertIs(alike(one, one), True)
            self.assertIs(alike(one, Cloth(shade, list(cols), list(rows))), True)

    def assert_unlike(self, one, other):
        self.assertIs(alike(one, other), False)
        self.assertIs(alike(other, one), False)

    def test_another_shade(self):
        for shade, cols, rows in all_parts():
            self.assert_unlike(Cloth(shade, cols, rows), Cloth(1 - shade, cols, rows))

    def test_one_other_bit(self):
        for shade, cols, rows in large_parts():
            one = Cloth(shade, cols, rows)
            for k in range(len(cols)):
                self.assert_unlike(one, Cloth(shade, cols[:k] + [1 - cols[k]] + cols[k + 1:], rows))
            for k in range(len(rows)):
                self.assert_unlike(one, Cloth(shade, cols, rows[:k] + [1 - rows[k]] + rows[k + 1:]))

    def test_one_line_more(self):
        for shade, cols, rows in all_parts():
            one = Cloth(shade, cols, rows)
            for bit in (0, 1):
                if len(cols) < 39:
                    self.assert_unlike(one, Cloth(shade, cols + [bit], rows))
                if len(rows) < 39:
                    self.assert_unlike(one, Cloth(shade, cols, rows + [bit]))

    def test_columns_are_no_rows(self):
        self.assert_unlike(Cloth(0, [1], []), Cloth(0, [], [1]))
        self.assert_unlike(Cloth(0, [1, 0], [0, 1]), Cloth(0, [0, 1], [1, 0]))


if __name__ == "__main__":
    unittest.main()

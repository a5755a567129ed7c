"""Points 14 and 15 and the interface's sashiko/sew.py."""

import itertools
import unittest

from sashiko.cloth import Cloth, alike
from sashiko.picture import picture
from sashiko.sew import backed, cut, mirrored, parted, put, sewn_together, transposed, turned
from samples import (
    NO_BITS, OTHER_WAYS, SIXTY_FIGURES, all_parts, beyond, every_side_parts, large_parts, lines_of, nested_parts,
    refused, small_parts, told_of,
)

WAYS = ("col", "row")


def sample_parts():
    return all_parts() + list(every_side_parts())[::3] + list(nested_parts())


def some_parts():
    """Fewer ones, for tests that go through every line."""
    return list(small_parts())[::5] + list(large_parts())


def steps_of(cloth):
    """For each line and step of a cloth whether it is a stitch."""
    found = {}
    for way, k, bit in lines_of(cloth.cols(), cloth.rows()):
        for step in range(cloth.tall() if way == "col" else cloth.wide()):
            found[way, k, step] = cloth.stitched(way, k, step)
    return found


def bits_of(cloth, way):
    return cloth.cols() if way == "col" else cloth.rows()


def other_way(way):
    return "row" if way == "col" else "col"


def columns_of(table):
    return [list(column) for column in zip(*table)]


def table_along(cloth, way):
    """The picture of a cloth as a list of what a seam along that way leaves whole: columns or rows."""
    return columns_of(picture(cloth)) if way == "col" else picture(cloth)


def with_side(parts, way, bits):
    """The parts of a cloth with other bits of the lines of one way."""
    return (parts[0], bits, parts[2]) if way == "col" else (parts[0], parts[1], bits)


class ChangedWhole(unittest.TestCase):
    def test_mirrored(self):
        for parts in sample_parts():
            cloth = Cloth(*parts)
            told = mirrored(cloth)
            self.assertEqual(picture(told), [row[::-1] for row in picture(cloth)])
            self.assertTrue(alike(mirrored(told), cloth))
            self.assertEqual(told_of(cloth), parts)

    def test_mirrored_written_out(self):
        self.assertEqual(told_of(mirrored(Cloth(0, [1, 0, 0], [1, 0]))), (1, [0, 0, 1], [0, 1]))
        self.assertEqual(told_of(mirrored(Cloth(0, [1, 0], [1, 0]))), (1, [0, 1], [1, 0]))
        self.assertEqual(told_of(mirrored(Cloth(1, [], [1, 0]))), (1, [], [1, 0]))

    def test_transposed(self):
        for parts in sample_parts():
            cloth = Cloth(*parts)
            told = transposed(cloth)
            self.assertEqual((told.wide(), told.tall()), (cloth.tall(), cloth.wide()))
            self.assertEqual(picture(told), columns_of(picture(cloth)))
            self.assertTrue(alike(transposed(told), cloth))
            self.assertEqual(told_of(cloth), parts)

    def test_backed(self):
        for parts in sample_parts():
            cloth = Cloth(*parts)
            told = backed(cloth)
            self.assertEqual(told.shade(), cloth.shade())
            self.assertEqual(steps_of(told), {step: not sewn for step, sewn in steps_of(cloth).items()})
            self.assertTrue(alike(backed(told), cloth))
            self.assertEqual(told_of(cloth), parts)

    def test_the_told_ones_are_cloths_of_their_own(self):
        for call in (mirrored, transposed, backed):
            cloth = Cloth(1, [0, 1, 1], [1])
            told = call(cloth)
            self.assertIs(type(told), Cloth)
            ahead = told_of(told)
            told.cols().clear()
            cloth.rows().append(1)
            self.assertEqual(told_of(told), ahead)
            self.assertEqual(told_of(cloth), (1, [0, 1, 1], [1]))


class Turned(unittest.TestCase):
    def test_every_line(self):
        for parts in sample_parts():
            cloth = Cloth(*parts)
            for way, k, bit in lines_of(parts[1], parts[2]):
                bits = bits_of(cloth, way)
                told = turned(cloth, way, k)
                self.assertEqual(told_of(told), with_side(parts, way, bits[:k] + [1 - bit] + bits[k + 1:]))
                self.assertEqual(told_of(cloth), parts)
                self.assertTrue(alike(turned(told, way, k), cloth))

    def test_the_told_cloth_is_one_of_its_own(self):
        cloth = Cloth(0, [1, 0], [1])
        told = turned(cloth, "col", 1)
        told.cols().clear()
        self.assertEqual((told_of(told), told_of(cloth)), ((0, [1, 1], [1]), (0, [1, 0], [1])))


class Put(unittest.TestCase):
    def test_every_place(self):
        for parts in some_parts():
            cloth = Cloth(*parts)
            for way in WAYS:
                bits = bits_of(cloth, way)
                if len(bits) < 39:
                    for k, bit in itertools.product(range(len(bits) + 1), (0, 1)):
                        told = put(cloth, way, k, bit)
                        self.assertEqual(told_of(told), with_side(parts, way, bits[:k] + [bit] + bits[k:]))
                        self.assertEqual(told_of(cloth), parts)

    def test_up_to_thirty_nine_lines(self):
        for way in WAYS:
            cloth = Cloth(1, [], [])
            for k in range(39):
                cloth = put(cloth, way, k, k % 2)
            self.assertEqual(bits_of(cloth, way), [0, 1] * 19 + [0])
            refused(self, "BadSize", put, cloth, way, 39, 0)

    def test_no_line(self):
        for parts in large_parts():
            cloth = Cloth(*parts)
            for way in WAYS:
                for k in beyond(len(bits_of(cloth, way)) + 1):
                    refused(self, "NoLine", put, cloth, way, k, 1)
            for way in OTHER_WAYS:
                refused(self, "NoLine", put, cloth, way, 0, 1)
            self.assertEqual(told_of(cloth), parts)

    def test_no_bit(self):
        for parts in large_parts():
            cloth = Cloth(*parts)
            for way, wrong in itertools.product(WAYS, NO_BITS + (True, False)):
                refused(self, "BadBit", put, cloth, way, 0, wrong)
                refused(self, "BadBit", put, cloth, way, len(bits_of(cloth, way)), wrong)

    def test_thirty_nine_lines_already(self):
        for way in WAYS:
            cloth = Cloth(*with_side((0, [1, 0], [1]), way, [0, 1, 1] * 13))
            for k, bit in itertools.product(range(40), (0, 1)):
                refused(self, "BadSize", put, cloth, way, k, bit)
            self.assertEqual(bits_of(put(cloth, other_way(way), 0, 1), way), [0, 1, 1] * 13)

    def test_two_faults_at_once(self):
        for way in WAYS:
            short = Cloth(1, [0], [1])
            full = Cloth(0, [0] * 39, [1] * 39)
            for wrong in NO_BITS:
                refused(self, "NoLine", put, short, way, 2, wrong)
                refused(self, "NoLine", put, short, way, -1, wrong)
                refused(self, "NoLine", put, short, "up", 0, wrong)
                refused(self, "NoLine", put, full, way, 40, wrong)
                refused(self, "BadBit", put, full, way, 39, wrong)
                refused(self, "BadBit", put, full, way, 0, wrong)
            for k in (40, 41, -1, SIXTY_FIGURES, -SIXTY_FIGURES):
                refused(self, "NoLine", put, full, way, k, 0)
            refused(self, "NoLine", put, full, "cols", 0, 0)


class Cut(unittest.TestCase):
    def test_every_line(self):
        for parts in some_parts():
            cloth = Cloth(*parts)
            for way, k, bit in lines_of(parts[1], parts[2]):
                bits = bits_of(cloth, way)
                told = cut(cloth, way, k)
                self.assertEqual(told_of(told), with_side(parts, way, bits[:k] + bits[k + 1:]))
                self.assertEqual(told_of(cloth), parts)
                self.assertTrue(alike(put(told, way, k, bit), cloth))


class Parted(unittest.TestCase):
    def test_every_line(self):
        for parts in some_parts():
            cloth = Cloth(*parts)
            for way, k, bit in lines_of(parts[1], parts[2]):
                told = parted(cloth, way, k)
                self.assertIs(type(told), tuple)
                self.assertEqual(len(told), 2)
                whole = table_along(cloth, way)
                self.assertEqual(table_along(told[0], way), whole[:k + 1])
                self.assertEqual(table_along(told[1], way), whole[k + 1:])
                self.assertEqual(told_of(cloth), parts)

    def test_parted_and_sewn_together_again_is_the_first_cloth(self):
        for parts in sample_parts():
            cloth = Cloth(*parts)
            for way, k, bit in lines_of(parts[1], parts[2]):
                one, other = parted(cloth, way, k)
                self.assertTrue(alike(sewn_together(one, other, way), cloth))


class LinesThatAreNotThere(unittest.TestCase):
    def test_turned_cut_and_parted(self):
        for call, parts in itertools.product((turned, cut, parted), large_parts()):
            cloth = Cloth(*parts)
            for way in WAYS:
                for k in beyond(len(bits_of(cloth, way))):
                    refused(self, "NoLine", call, cloth, way, k)
            for way in OTHER_WAYS:
                refused(self, "NoLine", call, cloth, way, 0)
            self.assertEqual(told_of(cloth), parts)


def parts_side_by_side(way, wide, tall, bits):
    """The parts of a cloth that is wide across the way and tall along it, as it is sewn along that way."""
    along = list(itertools.islice(itertools.cycle(bits), tall - 1))
    across = list(itertools.islice(itertools.cycle(bits[::-1]), wide - 1))
    return with_side((0, along, along), way, across)


class SewnTogether(unittest.TestCase):
    def test_all_small_cloths(self):
        cloths = [Cloth(*parts) for parts in small_parts() if len(parts[1]) < 3 and len(parts[2]) < 3]
        sewn = 0
        for one, other, way in itertools.product(cloths, cloths, WAYS):
            coming, going = bits_of(one, other_way(way)), bits_of(other, other_way(way))
            if len(coming) != len(going):
                refused(self, "BadSize", sewn_together, one, other, way)
                continue
            # Step by step: what would be the next step of each line of the first cloth.
            steps = one.wide() if way == "col" else one.tall()
            unfit = [k for k in range(len(coming)) if ((steps + coming[k]) % 2 == 1) != (going[k] == 1)]
            if unfit:
                self.assertEqual(refused(self, "Unfit", sewn_together, one, other, way).at, unfit[0])
            else:
                told = sewn_together(one, other, way)
                self.assertEqual(table_along(told, way), table_along(one, way) + table_along(other, way))
                sewn += 1
        self.assertGreater(sewn, 500)

    def test_both_cloths_stay(self):
        one, other = Cloth(0, [1], [0, 1]), Cloth(1, [0, 0], [0, 1])
        told = sewn_together(one, other, "col")
        self.assertIs(type(told), Cloth)
        self.assertEqual(told_of(told), (0, [1, 0, 0, 0], [0, 1]))
        told.cols().clear()
        one.cols().append(1)
        self.assertEqual(told_of(told), (0, [1, 0, 0, 0], [0, 1]))
        self.assertEqual((told_of(one), told_of(other)), ((0, [1], [0, 1]), (1, [0, 0], [0, 1])))

    def test_a_cloth_with_itself(self):
        cloth = Cloth(1, [1], [0, 1, 1])
        self.assertEqual(table_along(sewn_together(cloth, cloth, "col"), "col"), table_along(cloth, "col") * 2)
        self.assertEqual(table_along(sewn_together(cloth, cloth, "row"), "row"), table_along(cloth, "row") * 2)

    def test_forty_cells_and_more(self):
        for way, first in itertools.product(WAYS, range(1, 41)):
            for second in (40 - first, 41 - first, 40):
                one = Cloth(*parts_side_by_side(way, first, 1, [1, 0, 0]))
                if second > 0:
                    other = Cloth(*parts_side_by_side(way, second, 1, [1, 1, 0]))
                    if first + second <= 40:
                        told = sewn_together(one, other, way)
                        self.assertEqual(table_along(told, way), table_along(one, way) + table_along(other, way))
                    else:
                        refused(self, "BadSize", sewn_together, one, other, way)

    def test_sides_of_unlike_length(self):
        for way, one_tall, other_tall in itertools.product(WAYS, (1, 2, 3, 39, 40), (1, 2, 3, 39, 40)):
            if one_tall != other_tall:
                one = Cloth(*parts_side_by_side(way, 4, one_tall, [0, 1]))
                other = Cloth(*parts_side_by_side(way, 5, other_tall, [0, 1]))
                refused(self, "BadSize", sewn_together, one, other, way)
                refused(self, "BadSize", sewn_together, other, one, way)

    def test_unfit_tells_the_least_number_of_a_line_that_does_not_go_on(self):
        for way, wide in itertools.product(WAYS, (1, 2, 7)):
            one = Cloth(*parts_side_by_side(way, wide, 40, [0, 1, 1, 0, 1]))
            fitting = [(bit + wide) % 2 for bit in bits_of(one, other_way(way))]
            for k in range(39):
                for last in range(k, 39, 5):
                    bits = list(fitting)
                    bits[k] = 1 - bits[k]
                    bits[last] = 1 - fitting[last]
                    parts = with_side((1, [1, 0], [1, 0]), other_way(way), bits)
                    error = refused(self, "Unfit", sewn_together, one, Cloth(*parts), way)
                    self.assertEqual((error.at, type(error.at)), (k, int))

    def test_another_way_is_refused_ahead_of_all_else(self):
        fit, unfit, large = Cloth(0, [1], [1]), Cloth(0, [0], [0]), Cloth(0, [0] * 39, [0] * 38)
        for way in OTHER_WAYS:
            for other in (fit, unfit, large):
                refused(self, "NoLine", sewn_together, fit, other, way)

    def test_bad_size_comes_ahead_of_unfit(self):
        for way in WAYS:
            one = Cloth(*parts_side_by_side(way, 30, 3, [0]))
            other = Cloth(*parts_side_by_side(way, 11, 3, [1]))
            refused(self, "BadSize", sewn_together, one, other, way)
            narrow = Cloth(*parts_side_by_side(way, 10, 3, [1]))
            refused(self, "Unfit", sewn_together, one, narrow, way)
            tall = Cloth(*parts_side_by_side(way, 10, 4, [1]))
            refused(self, "BadSize", sewn_together, one, tall, way)


if __name__ == "__main__":
    unittest.main()

"""Point 10 and the interface's sashiko/within.py."""

import unittest

from sashiko.cloth import Cloth
from sashiko.seams import rounds, seams
from sashiko.within import area, around, box, inside, nests
from samples import (
    all_parts, cells_beyond, cells_of, every_side_parts, large_parts, nested_parts, refused, small_parts, told_of,
)

CROSS = [(1, 2), (2, 2), (2, 1), (3, 1), (3, 2), (4, 2), (4, 3), (3, 3), (3, 4), (2, 4), (2, 3), (1, 3)]


def sample_cloths():
    return [Cloth(*parts) for parts in all_parts() + list(every_side_parts()) + list(nested_parts())]


def within_by_walks(cloth, line):
    """The cells within a round seam, by the walks from each cell to the left border."""
    links = {tuple(sorted(pair)) for pair in zip(line, line[1:] + line[:1])}
    found = []
    for y in range(cloth.tall()):
        # The walk from the next cell goes on by the walk from the one at its left.
        crossings = 0
        for x in range(1, cloth.wide()):
            crossings += ((x, y), (x, y + 1)) in links
            if crossings % 2 == 1:
                found.append((x, y))
    return sorted(found)


def next_around(insides, number):
    """The number of the next round seam around one, by the sets of the cells within them, or -1."""
    own = insides[number]
    others = [other for other in range(len(insides)) if other != number and own <= insides[other]]
    return min(others, key=lambda other: len(insides[other]), default=-1)


class WrittenOut(unittest.TestCase):
    def test_the_least_round_seam(self):
        cloth = Cloth(0, [0, 0], [0, 0])
        line = [(1, 1), (2, 1), (2, 2), (1, 2)]
        self.assertEqual(rounds(cloth), [line])
        self.assertEqual((box(line), inside(line), area(line)), ((1, 1, 2, 2), [(1, 1)], 1))
        self.assertEqual(nests(cloth), [-1])
        self.assertEqual(around(cloth, 1, 1), [0])
        self.assertEqual(around(cloth, 0, 1), [])

    def test_a_cross(self):
        self.assertIn(CROSS, rounds(Cloth(0, [1, 0, 0, 1], [1, 0, 0, 1])))
        self.assertEqual(box(CROSS), (1, 1, 4, 4))
        self.assertEqual(inside(CROSS), [(1, 2), (2, 1), (2, 2), (2, 3), (3, 2)])
        self.assertEqual(area(CROSS), 5)

    def test_the_area_counts_cells_within_other_seams_too(self):
        cloth = Cloth(0, [0, 1, 0, 0, 1, 0], [0, 1, 0, 0, 1, 0])
        areas = [area(line) for line in rounds(cloth)]
        self.assertEqual(areas, [13, 1])
        self.assertEqual(around(cloth, 3, 3), [1, 0])
        self.assertEqual(around(cloth, 3, 2), [0])
        self.assertEqual(around(cloth, 0, 0), [])
        self.assertEqual(nests(cloth), [-1, 0])

    def test_the_numbers_are_among_round_seams_alone(self):
        cloth = Cloth(0, [1, 0, 0, 1], [1, 0, 0, 1])
        self.assertFalse(seams(cloth)[0][0])
        self.assertEqual(rounds(cloth).index(CROSS), 0)
        self.assertEqual(around(cloth, 2, 1), [0])

    def test_no_round_seams(self):
        for cloth in (Cloth(1, [], []), Cloth(0, [1] * 39, []), Cloth(0, [0, 0], [1, 0])):
            self.assertEqual(nests(cloth), [])
            for x, y in cells_of(cloth):
                self.assertEqual(around(cloth, x, y), [])


class RoundSeams(unittest.TestCase):
    @classmethod
    def setUpClass(cls):
        cls.told = [(cloth, rounds(cloth)) for cloth in sample_cloths()]

    def test_there_are_many(self):
        self.assertGreater(sum(len(lines) for cloth, lines in self.told), 4000)
        sides = {side for cloth, lines in self.told if lines for side in (cloth.wide(), cloth.tall())}
        self.assertLessEqual(set(range(3, 41)), sides)

    def test_box(self):
        for cloth, lines in self.told:
            for line in lines:
                told = box(line)
                self.assertEqual([type(told)] + [type(number) for number in told], [tuple] + [int] * 4)
                columns, rows = sorted(x for x, y in line), sorted(y for x, y in line)
                self.assertEqual(told, (columns[0], rows[0], columns[-1], rows[-1]))

    def test_inside_is_what_the_walks_to_the_left_tell(self):
        for cloth, lines in self.told:
            for line in lines:
                told = inside(line)
                self.assertIs(type(told), list)
                self.assertEqual(told, within_by_walks(cloth, line))

    def test_inside_is_rising_and_within_the_box(self):
        for cloth, lines in self.told:
            for line in lines:
                told = inside(line)
                self.assertEqual({type(cell) for cell in told}, {tuple})
                self.assertEqual(told, sorted(set(told)))
                low_x, low_y, high_x, high_y = box(line)
                self.assertEqual((told[0][0], told[-1][0] + 1), (low_x, high_x))
                self.assertEqual((min(y for x, y in told), max(y for x, y in told) + 1), (low_y, high_y))

    def test_area_is_the_count_of_the_cells_within(self):
        for cloth, lines in self.told:
            for line in lines:
                self.assertIs(type(area(line)), int)
                self.assertEqual(area(line), len(inside(line)))
                # The same by the shoelace sum, which walks along the seam itself.
                twice = sum(one[0] * other[1] - other[0] * one[1] for one, other in zip(line, line[1:] + line[:1]))
                self.assertEqual(2 * area(line), abs(twice))

    def test_the_line_handed_in_stays(self):
        for cloth, lines in self.told:
            for line in lines[:5]:
                given = list(line)
                box(given), inside(given), area(given)
                self.assertEqual(given, line)

    def test_told_lists_changed_and_asked_again(self):
        for cloth, lines in self.told:
            for line in lines[:5]:
                ahead = (box(line), list(inside(line)), area(line))
                told = inside(line)
                told.reverse()
                told.append((99, 99))
                self.assertEqual((box(line), inside(line), area(line)), ahead)

    def test_the_line_handed_in_changed_afterwards(self):
        line = list(CROSS)
        told = inside(line)
        line.clear()
        self.assertEqual(told, [(1, 2), (2, 1), (2, 2), (2, 3), (3, 2)])


class Nests(unittest.TestCase):
    def test_the_next_one_around(self):
        for cloth in sample_cloths():
            insides = [set(inside(line)) for line in rounds(cloth)]
            told = nests(cloth)
            self.assertIs(type(told), list)
            self.assertEqual(told, [next_around(insides, number) for number in range(len(insides))])

    def test_the_samples_have_deep_nests(self):
        depths = set()
        for parts in nested_parts():
            told = nests(Cloth(*parts))
            for number in range(len(told)):
                depth = 0
                while number != -1:
                    number, depth = told[number], depth + 1
                depths.add(depth)
        self.assertEqual(depths, set(range(1, 11)))

    def test_the_told_list_changed(self):
        for parts in nested_parts():
            cloth = Cloth(*parts)
            ahead = list(nests(cloth))
            nests(cloth).clear()
            nests(cloth).append(77)
            self.assertEqual(nests(cloth), ahead)
            self.assertEqual(told_of(cloth), parts)


class Around(unittest.TestCase):
    def assert_around(self, cloth, cells):
        insides = [set(inside(line)) for line in rounds(cloth)]
        counts = []
        for cell in cells:
            numbers = [number for number, within in enumerate(insides) if cell in within]
            told = around(cloth, *cell)
            self.assertIs(type(told), list)
            self.assertEqual(told, sorted(numbers, key=lambda number: len(insides[number])))
            counts.append(len(told))
        return counts

    def test_every_cell_of_small_cloths(self):
        for parts in list(small_parts())[::3]:
            cloth = Cloth(*parts)
            self.assert_around(cloth, cells_of(cloth))

    def test_cells_of_large_cloths(self):
        for parts in large_parts():
            cloth = Cloth(*parts)
            self.assert_around(cloth, cells_of(cloth)[::101])

    def test_cells_within_none_one_and_several(self):
        counts = set()
        for parts in nested_parts():
            cloth = Cloth(*parts)
            to_the_middle = [(x, cloth.tall() // 2) for x in range(cloth.wide() // 2 + 1)]
            counts.update(self.assert_around(cloth, cells_of(cloth)[::97] + to_the_middle))
        self.assertLessEqual(set(range(11)), counts)

    def test_the_told_list_changed(self):
        for parts in nested_parts():
            cloth = Cloth(*parts)
            x, y = cloth.wide() // 2, cloth.tall() // 2
            ahead = list(around(cloth, x, y))
            around(cloth, x, y).append(5)
            around(cloth, x, y).clear()
            around(cloth, 0, 0).append(5)
            self.assertEqual((around(cloth, x, y), around(cloth, 0, 0)), (ahead, []))

    def test_cells_beyond(self):
        for parts in list(large_parts()) + list(nested_parts()):
            cloth = Cloth(*parts)
            for x, y in cells_beyond(cloth):
                refused(self, "NoCell", around, cloth, x, y)

    def test_the_cells_beside_each_border_are_cells(self):
        for parts in large_parts():
            cloth = Cloth(*parts)
            for x, y in ((0, 0), (cloth.wide() - 1, 0), (0, cloth.tall() - 1), (cloth.wide() - 1, cloth.tall() - 1)):
                self.assertEqual(around(cloth, x, y), [])


if __name__ == "__main__":
    unittest.main()

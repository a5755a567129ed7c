"""Points 11 and 12 and the interface's sashiko/regions.py."""

import itertools
import random
import unittest

from sashiko.cloth import Cloth
from sashiko.regions import fence, path, region, regions
from sashiko.seams import seams
from samples import (
    all_parts, cells_beyond, cells_of, every_side_parts, large_parts, nested_parts, refused, small_parts, stitches_of,
    told_of,
)


def sample_parts():
    return all_parts() + list(every_side_parts())[::4] + list(nested_parts())


def step_between(one, other):
    """The step between two cells side by side, as a rising pair of points."""
    x, y = max(one, other)
    return ((x, y), (x, y + 1)) if one[1] == other[1] else ((x, y), (x + 1, y))


def sides_of(cloth, cell):
    """The cells side by side with a cell, whatever lies between."""
    x, y = cell
    near = ((x - 1, y), (x + 1, y), (x, y - 1), (x, y + 1))
    return [(a, b) for a, b in near if 0 <= a < cloth.wide() and 0 <= b < cloth.tall()]


def bare_sides(cloth):
    """For each cell the cells side by side with it with no stitch between."""
    sewn = set(stitches_of(cloth.cols(), cloth.rows()))
    near = {}
    for cell in cells_of(cloth):
        near[cell] = [other for other in sides_of(cloth, cell) if step_between(cell, other) not in sewn]
    return near


def distances(near, start):
    """For each cell of the start's region how many steps away it is, found ring by ring."""
    found, ring, steps = {start: 0}, [start], 0
    while ring:
        steps += 1
        ring = sorted({other for cell in ring for other in near[cell] if other not in found})
        found.update((cell, steps) for cell in ring)
    return found


class WrittenOut(unittest.TestCase):
    def test_one_cell(self):
        cloth = Cloth(1, [], [])
        self.assertEqual((region(cloth, 0, 0), regions(cloth)), ([(0, 0)], [[(0, 0)]]))
        self.assertEqual((path(cloth, (0, 0), (0, 0)), fence(cloth, (0, 0), (0, 0))), ([(0, 0)], []))

    def test_one_row(self):
        cloth = Cloth(0, [0, 1, 0, 0, 1], [])
        self.assertEqual(regions(cloth), [[(0, 0), (1, 0)], [(2, 0), (3, 0), (4, 0)], [(5, 0)]])
        self.assertEqual(region(cloth, 3, 0), [(2, 0), (3, 0), (4, 0)])
        self.assertEqual(path(cloth, (4, 0), (2, 0)), [(4, 0), (3, 0), (2, 0)])
        self.assertIsNone(path(cloth, (1, 0), (2, 0)))
        self.assertEqual(fence(cloth, (0, 0), (5, 0)), [0, 1])
        self.assertEqual(fence(cloth, (5, 0), (3, 0)), [1])

    def test_one_column(self):
        cloth = Cloth(0, [], [1, 0, 1])
        self.assertEqual(regions(cloth), [[(0, 0)], [(0, 1), (0, 2)], [(0, 3)]])
        self.assertEqual(path(cloth, (0, 2), (0, 1)), [(0, 2), (0, 1)])
        self.assertEqual(fence(cloth, (0, 3), (0, 0)), [0, 1])

    def test_around_the_least_round_seam(self):
        cloth = Cloth(0, [0, 0], [0, 0])
        border = [(0, 0), (0, 1), (0, 2), (1, 0), (1, 2), (2, 0), (2, 1), (2, 2)]
        self.assertEqual(regions(cloth), [border, [(1, 1)]])
        self.assertEqual(len(path(cloth, (0, 1), (2, 1))), 5)
        self.assertEqual(path(cloth, (0, 0), (2, 0)), [(0, 0), (1, 0), (2, 0)])
        self.assertIsNone(path(cloth, (1, 1), (0, 1)))
        self.assertEqual(fence(cloth, (1, 1), (0, 1)), [0])
        self.assertEqual(fence(cloth, (0, 1), (2, 1)), [])

    def test_a_fence_with_an_open_seam_that_is_crossed_twice(self):
        cloth = Cloth(0, [0, 0], [1, 0])
        self.assertEqual(len(seams(cloth)), 1)
        self.assertEqual(fence(cloth, (0, 0), (0, 1)), [0])
        self.assertEqual(fence(cloth, (0, 1), (2, 1)), [])
        self.assertEqual(fence(cloth, (1, 0), (1, 1)), [])

    def test_the_numbers_of_a_fence_are_among_all_seams(self):
        cloth = Cloth(0, [0, 0], [0, 0, 1])
        self.assertEqual([is_round for is_round, points in seams(cloth)], [False, True, False])
        self.assertEqual(fence(cloth, (1, 1), (0, 1)), [1])
        self.assertEqual(fence(cloth, (0, 3), (1, 1)), [0, 1])
        self.assertEqual(fence(cloth, (0, 3), (2, 3)), [0, 2])


class Regions(unittest.TestCase):
    def test_the_region_of_each_cell(self):
        for parts in sample_parts():
            cloth = Cloth(*parts)
            near = bare_sides(cloth)
            told = regions(cloth)
            self.assertIs(type(told), list)
            for cells in told:
                self.assertIs(type(cells), list)
                self.assertEqual({type(cell) for cell in cells}, {tuple})
                self.assertEqual(cells, sorted(distances(near, cells[0])))
                self.assertEqual(region(cloth, *cells[0]), cells)
                self.assertEqual(region(cloth, *cells[-1]), cells)

    def test_region_of_every_cell_of_small_cloths(self):
        for parts in list(small_parts())[::2]:
            cloth = Cloth(*parts)
            near = bare_sides(cloth)
            for cell in cells_of(cloth):
                self.assertEqual(region(cloth, *cell), sorted(distances(near, cell)))

    def test_every_cell_is_in_just_one_region(self):
        for parts in sample_parts():
            cloth = Cloth(*parts)
            cells = [cell for told in regions(cloth) for cell in told]
            self.assertEqual(sorted(cells), cells_of(cloth))

    def test_the_order_of_regions(self):
        for parts in sample_parts():
            firsts = [cells[0] for cells in regions(Cloth(*parts))]
            self.assertEqual(firsts, sorted(firsts))

    def test_the_cells_of_a_region_have_one_colour(self):
        for parts in large_parts():
            cloth = Cloth(*parts)
            for cells in regions(cloth):
                self.assertEqual(len({cloth.colour(x, y) for x, y in cells}), 1)

    def test_told_lists_changed(self):
        for parts in list(small_parts())[::5] + list(large_parts()):
            cloth = Cloth(*parts)
            ahead = [list(cells) for cells in regions(cloth)]
            told = regions(cloth)
            for cells in told:
                cells.reverse()
                cells.append((99, 99))
            told.reverse()
            told.append([])
            region(cloth, 0, 0).clear()
            self.assertEqual(regions(cloth), ahead)
            self.assertEqual(region(cloth, 0, 0), ahead[0])
            self.assertEqual(told_of(cloth), parts)

    def test_cells_beyond(self):
        for parts in large_parts():
            cloth = Cloth(*parts)
            for x, y in cells_beyond(cloth):
                refused(self, "NoCell", region, cloth, x, y)


class Paths(unittest.TestCase):
    def assert_path(self, cloth, near, one, other, steps):
        told = path(cloth, one, other)
        self.assertIs(type(told), list)
        self.assertEqual({type(cell) for cell in told}, {tuple})
        self.assertEqual((told[0], told[-1], len(told)), (one, other, steps + 1))
        for here, onward in zip(told, told[1:]):
            self.assertIn(onward, near[here])

    def assert_paths_from(self, cloth, near, one, others):
        steps = distances(near, one)
        for other in others:
            if other in steps:
                self.assert_path(cloth, near, one, other, steps[other])
            else:
                self.assertIsNone(path(cloth, one, other))

    def test_every_pair_of_cells_of_small_cloths(self):
        for parts in list(small_parts())[::3]:
            cloth = Cloth(*parts)
            near = bare_sides(cloth)
            for one in cells_of(cloth):
                self.assert_paths_from(cloth, near, one, cells_of(cloth))

    def test_cells_of_large_cloths(self):
        for parts in list(large_parts()) + list(nested_parts()):
            cloth = Cloth(*parts)
            near = bare_sides(cloth)
            for one in cells_of(cloth)[::211]:
                self.assert_paths_from(cloth, near, one, cells_of(cloth)[::67])

    def test_all_of_the_longest_region(self):
        for parts in list(large_parts()) + list(nested_parts()):
            cloth = Cloth(*parts)
            near = bare_sides(cloth)
            cells = max(regions(cloth), key=len)
            self.assert_paths_from(cloth, near, cells[len(cells) // 2], cells[:40] + cells[-40:])

    def test_a_cell_to_itself(self):
        for parts in large_parts():
            cloth = Cloth(*parts)
            for cell in cells_of(cloth)[::19]:
                self.assertEqual(path(cloth, cell, cell), [cell])

    def test_cells_side_by_side_with_a_stitch_between(self):
        cloth = Cloth(0, [0], [0])
        self.assertEqual(path(cloth, (0, 0), (1, 0)), [(0, 0), (1, 0)])
        self.assertIsNone(path(cloth, (0, 1), (1, 1)))
        cloth = Cloth(0, [0, 1], [0])
        self.assertEqual(path(cloth, (1, 0), (0, 1)), [(1, 0), (0, 0), (0, 1)])

    def test_told_lists_changed(self):
        cloth = Cloth(0, [0, 0], [0, 0])
        ahead = list(path(cloth, (0, 0), (2, 1)))
        told = path(cloth, (0, 0), (2, 1))
        told.reverse()
        told.append((9, 9))
        path(cloth, (0, 0), (0, 0)).clear()
        self.assertEqual(path(cloth, (0, 0), (2, 1)), ahead)
        self.assertEqual(path(cloth, (0, 0), (0, 0)), [(0, 0)])


class Fences(unittest.TestCase):
    def setUp(self):
        self.source = random.Random(12)

    def walk_to(self, cloth, one, other):
        """A walk of cells side by side that strays about before it goes straight to the other cell."""
        cells = [one]
        for place in range(self.source.randrange(60)):
            cells.append(self.source.choice(sides_of(cloth, cells[-1])))
        while cells[-1] != other:
            here = cells[-1]
            nearer = [
                (x, y) for x, y in sides_of(cloth, here)
                if abs(x - other[0]) + abs(y - other[1]) < abs(here[0] - other[0]) + abs(here[1] - other[1])
            ]
            cells.append(self.source.choice(nearer))
        return cells

    def assert_fence(self, cloth, links, one, other):
        cells = self.walk_to(cloth, one, other) if cloth.wide() * cloth.tall() > 1 else [one]
        counts = {}
        for here, onward in zip(cells, cells[1:]):
            number = links.get(step_between(here, onward))
            counts[number] = counts.get(number, 0) + 1
        expected = sorted(number for number in counts if number is not None and counts[number] % 2 == 1)
        told = fence(cloth, one, other)
        self.assertIs(type(told), list)
        self.assertEqual(told, expected)
        self.assertEqual(fence(cloth, other, one), expected)
        return told

    def links_of(self, cloth):
        """For each stitch the number of its seam."""
        links = {}
        for number, (is_round, points) in enumerate(seams(cloth)):
            for pair in zip(points, points[1:] + (points[:1] if is_round else [])):
                links[tuple(sorted(pair))] = number
        return links

    def test_every_pair_of_cells_of_small_cloths(self):
        for parts in list(small_parts())[::7]:
            cloth = Cloth(*parts)
            links = self.links_of(cloth)
            for one in cells_of(cloth):
                for other in cells_of(cloth):
                    self.assert_fence(cloth, links, one, other)

    def test_cells_of_large_cloths(self):
        lengths = set()
        for parts in list(large_parts()) + list(nested_parts()):
            cloth = Cloth(*parts)
            links = self.links_of(cloth)
            for place in range(12):
                one, other = self.source.choice(cells_of(cloth)), self.source.choice(cells_of(cloth))
                lengths.add(len(self.assert_fence(cloth, links, one, other)))
        self.assertLessEqual(set(range(8)), lengths)

    def test_a_cell_with_itself(self):
        for parts in large_parts():
            cloth = Cloth(*parts)
            for cell in cells_of(cloth)[::97]:
                self.assertEqual(fence(cloth, cell, cell), [])

    def test_cells_of_one_region_have_no_fence(self):
        for parts in large_parts():
            cloth = Cloth(*parts)
            for cells in regions(cloth)[::40]:
                self.assertEqual(fence(cloth, cells[0], cells[-1]), [])

    def test_told_lists_changed(self):
        for parts in nested_parts():
            cloth = Cloth(*parts)
            middle = (cloth.wide() // 2, cloth.tall() // 2)
            ahead = list(fence(cloth, (0, 0), middle))
            fence(cloth, (0, 0), middle).append(3)
            fence(cloth, (0, 0), middle).reverse()
            fence(cloth, (0, 0), (0, 0)).append(3)
            self.assertEqual(fence(cloth, (0, 0), middle), ahead)
            self.assertEqual(fence(cloth, (0, 0), (0, 0)), [])
            self.assertEqual(told_of(cloth), parts)


class CellsThatAreNotThere(unittest.TestCase):
    def test_path_and_fence_at_either_place(self):
        for call, parts in itertools.product((path, fence), large_parts()):
            cloth = Cloth(*parts)
            last = (cloth.wide() - 1, cloth.tall() - 1)
            for cell in cells_beyond(cloth):
                refused(self, "NoCell", call, cloth, cell, last)
                refused(self, "NoCell", call, cloth, (0, 0), cell)
                refused(self, "NoCell", call, cloth, cell, cell)


if __name__ == "__main__":
    unittest.main()

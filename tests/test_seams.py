"""Points 8, 9 and 10 (a seam's length) and the interface's sashiko/seams.py."""

import unittest

from sashiko.cloth import Cloth
from sashiko.seams import joined, rounds, seam, seams
from samples import SIXTY_FIGURES, all_cloths, all_parts, large_parts, neighbours_of, refused, small_parts, stitches_of


def points_of(cloth):
    return [(x, y) for x in range(cloth.wide() + 1) for y in range(cloth.tall() + 1)]


def points_beyond(cloth):
    wide, tall = cloth.wide(), cloth.tall()
    far = SIXTY_FIGURES
    return (
        (-1, 0), (0, -1), (-1, -1), (wide + 1, 0), (0, tall + 1), (wide + 1, tall + 1), (wide, tall + 1),
        (wide + 1, tall), (-1, tall), (wide, -1), (far, 0), (0, far), (-far, 1), (1, -far), (far, -far), (0, 99),
    )


def at_border(cloth, point):
    return point[0] in (0, cloth.wide()) or point[1] in (0, cloth.tall())


def links_of(told):
    """The stitches that a told seam goes along, each as a rising pair of points."""
    is_round, points = told
    pairs = list(zip(points, points[1:])) + ([(points[-1], points[0])] if is_round else [])
    return [tuple(sorted(pair)) for pair in pairs]


def groups_of(near):
    """The sets of points that stitches bind together, found without walking along them."""
    lead = {point: point for point in near if near[point]}
    changed = True
    while changed:
        changed = False
        for point in lead:
            least = min([lead[point]] + [lead[other] for other in near[point]])
            if least != lead[point]:
                lead[point], changed = least, True
    groups = {}
    for point in lead:
        groups.setdefault(lead[point], set()).add(point)
    return list(groups.values())


class Joined(unittest.TestCase):
    def test_every_point(self):
        for shade, cols, rows in all_parts():
            cloth = Cloth(shade, cols, rows)
            for point, others in neighbours_of(cols, rows).items():
                self.assertEqual(joined(cloth, point), others)

    def test_the_points_are_a_list_of_pairs(self):
        cloth = Cloth(0, [0, 0], [0, 0])
        self.assertEqual(joined(cloth, (1, 1)), [(1, 2), (2, 1)])
        self.assertEqual(joined(cloth, (2, 2)), [(1, 2), (2, 1)])
        self.assertIs(type(joined(cloth, (0, 0))), list)
        self.assertIs(type(joined(cloth, (1, 1))[0]), tuple)

    def test_how_many_stitches_go_from_a_point(self):
        for cloth in all_cloths():
            for point in points_of(cloth):
                others = joined(cloth, point)
                if at_border(cloth, point):
                    self.assertLessEqual(len(others), 1)
                else:
                    self.assertEqual(sorted(other[0] == point[0] for other in others), [False, True])

    def test_corners_have_no_stitch(self):
        for cloth in all_cloths():
            for point in ((0, 0), (0, cloth.tall()), (cloth.wide(), 0), (cloth.wide(), cloth.tall())):
                self.assertEqual(joined(cloth, point), [])

    def test_border_points_written_out(self):
        cloth = Cloth(0, [1, 0], [1])
        self.assertEqual(joined(cloth, (1, 0)), [(1, 1)])
        self.assertEqual(joined(cloth, (2, 0)), [])
        self.assertEqual(joined(cloth, (2, 2)), [(2, 1)])
        self.assertEqual(joined(cloth, (0, 1)), [(1, 1)])
        self.assertEqual(joined(cloth, (3, 1)), [(2, 1)])

    def test_points_beyond(self):
        for shade, cols, rows in large_parts():
            cloth = Cloth(shade, cols, rows)
            for point in points_beyond(cloth):
                refused(self, "NoPoint", joined, cloth, point)

    def test_told_lists_changed(self):
        cloth = Cloth(0, [0, 0], [0, 0])
        joined(cloth, (1, 1)).append((9, 9))
        joined(cloth, (1, 1)).reverse()
        self.assertEqual(joined(cloth, (1, 1)), [(1, 2), (2, 1)])


class SeamsWrittenOut(unittest.TestCase):
    def test_one_cell_has_no_seam(self):
        for shade in (0, 1):
            cloth = Cloth(shade, [], [])
            self.assertEqual((seams(cloth), rounds(cloth)), ([], []))
            for point in ((0, 0), (0, 1), (1, 0), (1, 1)):
                self.assertIsNone(seam(cloth, point))

    def test_one_cell_wide(self):
        cloth = Cloth(0, [], [1, 0, 1])
        self.assertEqual(seams(cloth), [(False, [(0, 1), (1, 1)]), (False, [(0, 3), (1, 3)])])
        self.assertIsNone(seam(cloth, (0, 2)))
        self.assertEqual(rounds(cloth), [])

    def test_one_cell_tall(self):
        cloth = Cloth(1, [0, 1, 1], [])
        self.assertEqual(seams(cloth), [(False, [(2, 0), (2, 1)]), (False, [(3, 0), (3, 1)])])
        self.assertIsNone(seam(cloth, (1, 1)))
        self.assertEqual(rounds(cloth), [])

    def test_forty_cells_in_one_row(self):
        told = [(False, [(k, 0), (k, 1)]) for k in range(1, 40)]
        self.assertEqual(seams(Cloth(0, [1] * 39, [])), told)
        self.assertEqual(seams(Cloth(0, [0] * 39, [])), [])

    def test_the_least_round_seam(self):
        cloth = Cloth(0, [0, 0], [0, 0])
        line = [(1, 1), (2, 1), (2, 2), (1, 2)]
        self.assertEqual(seams(cloth), [(True, line)])
        self.assertEqual(rounds(cloth), [line])
        for point in line:
            self.assertEqual(seam(cloth, point), (True, line))
        self.assertIsNone(seam(cloth, (0, 1)))

    def test_an_open_seam_from_the_left_to_the_right(self):
        cloth = Cloth(1, [0, 0], [1, 0])
        line = [(0, 1), (1, 1), (1, 2), (2, 2), (2, 1), (3, 1)]
        self.assertEqual(seams(cloth), [(False, line)])
        for point in line:
            self.assertEqual(seam(cloth, point), (False, line))
        self.assertEqual(rounds(cloth), [])

    def test_an_open_seam_begins_with_an_end_though_it_has_lesser_points(self):
        cloth = Cloth(0, [0, 1], [0, 0])
        line = [(2, 0), (2, 1), (1, 1), (1, 2), (2, 2), (2, 3)]
        self.assertEqual(seams(cloth), [(False, line)])
        for point in line:
            self.assertEqual(seam(cloth, point), (False, line))

    def test_the_order_goes_by_first_points_and_not_by_least_ones(self):
        told = [(False, [(1, 4), (1, 3), (2, 3)]), (False, [(2, 1), (1, 1), (1, 2), (2, 2)])]
        self.assertEqual(seams(Cloth(0, [0], [0, 0, 0])), told)

    def test_a_longer_round_seam(self):
        # A cross of five cells around the cell (2, 2), whose least points stand one above the other.
        cloth = Cloth(0, [1, 0, 0, 1], [1, 0, 0, 1])
        cross = [
            (1, 2), (2, 2), (2, 1), (3, 1), (3, 2), (4, 2), (4, 3), (3, 3), (3, 4), (2, 4), (2, 3), (1, 3),
        ]
        self.assertIn(cross, rounds(cloth))
        self.assertEqual(seam(cloth, (3, 4)), (True, cross))
        self.assertEqual(len(seam(cloth, (3, 4))[1]), 12)


class SeamsOfAllSamples(unittest.TestCase):
    def setUp(self):
        self.samples = [(Cloth(*parts), parts[1], parts[2]) for parts in all_parts()]

    def test_the_samples_have_seams_of_both_forms(self):
        tellings = [told for cloth, cols, rows in self.samples for told in seams(cloth)]
        self.assertGreater(len([told for told in tellings if told[0]]), 100)
        self.assertGreater(len([told for told in tellings if not told[0]]), 100)
        self.assertGreater(len([told for told in tellings if min(told[1]) != told[1][0]]), 100)

    def test_kinds(self):
        for cloth, cols, rows in self.samples:
            told = seams(cloth)
            self.assertIs(type(told), list)
            for one in told:
                self.assertEqual([type(one), type(one[0]), type(one[1])], [tuple, bool, list])
                self.assertEqual({type(point) for point in one[1]}, {tuple})
                self.assertEqual({type(number) for point in one[1] for number in point}, {int})

    def test_each_stitch_is_on_just_one_seam(self):
        for cloth, cols, rows in self.samples:
            links = [link for told in seams(cloth) for link in links_of(told)]
            self.assertEqual(sorted(links), sorted(stitches_of(cols, rows)))

    def test_each_point_with_a_stitch_is_on_just_one_seam_once(self):
        for cloth, cols, rows in self.samples:
            points = [point for told in seams(cloth) for point in told[1]]
            near = neighbours_of(cols, rows)
            self.assertEqual(sorted(points), [point for point in sorted(near) if near[point]])

    def test_a_seam_has_all_points_that_its_stitches_bind(self):
        for cloth, cols, rows in self.samples:
            groups = [sorted(group) for group in groups_of(neighbours_of(cols, rows))]
            self.assertEqual(sorted(sorted(told[1]) for told in seams(cloth)), sorted(groups))

    def test_round_seams_touch_no_border_and_open_ones_end_there(self):
        for cloth, cols, rows in self.samples:
            for is_round, points in seams(cloth):
                ends = [k for k, point in enumerate(points) if at_border(cloth, point)]
                self.assertEqual(ends, [] if is_round else [0, len(points) - 1])

    def test_where_a_round_seam_begins_and_goes(self):
        for cloth, cols, rows in self.samples:
            for line in rounds(cloth):
                self.assertEqual(line[0], min(line))
                self.assertEqual(line[1], (line[0][0] + 1, line[0][1]))
                self.assertEqual(line[-1], (line[0][0], line[0][1] + 1))

    def test_where_an_open_seam_begins(self):
        for cloth, cols, rows in self.samples:
            for is_round, points in seams(cloth):
                if not is_round:
                    self.assertLess(points[0], points[-1])

    def test_the_order_of_seams(self):
        for cloth, cols, rows in self.samples:
            firsts = [told[1][0] for told in seams(cloth)]
            self.assertEqual(firsts, sorted(firsts))

    def test_rounds_are_the_round_seams_in_their_order(self):
        for cloth, cols, rows in self.samples:
            self.assertEqual(rounds(cloth), [points for is_round, points in seams(cloth) if is_round])

    def test_the_seam_through_each_point(self):
        for cloth, cols, rows in self.samples:
            by_point = {point: told for told in seams(cloth) for point in told[1]}
            large = cloth.wide() * cloth.tall() > 400
            for place, point in enumerate(points_of(cloth)):
                if not large or place % 7 == 0 or at_border(cloth, point):
                    self.assertEqual(seam(cloth, point), by_point.get(point))


class SeamRefusals(unittest.TestCase):
    def test_points_beyond(self):
        for shade, cols, rows in large_parts():
            cloth = Cloth(shade, cols, rows)
            for point in points_beyond(cloth):
                refused(self, "NoPoint", seam, cloth, point)


class ToldListsChanged(unittest.TestCase):
    def spoil(self, told):
        for is_round, points in told:
            points.reverse()
            points.append((99, 99))
        told.reverse()
        told.append(None)

    def test_seams(self):
        for parts in list(small_parts())[::7] + list(large_parts()):
            cloth = Cloth(*parts)
            ahead = [(is_round, list(points)) for is_round, points in seams(cloth)]
            self.spoil(seams(cloth))
            self.assertEqual(seams(cloth), ahead)
            self.assertEqual(rounds(cloth), [points for is_round, points in ahead if is_round])

    def test_rounds(self):
        for parts in large_parts():
            cloth = Cloth(*parts)
            ahead = [list(line) for line in rounds(cloth)]
            told = rounds(cloth)
            for line in told:
                line.clear()
            told.clear()
            self.assertEqual(rounds(cloth), ahead)

    def test_seam(self):
        cloth = Cloth(0, [0, 0], [0, 0])
        seam(cloth, (2, 2))[1].clear()
        self.assertEqual(seam(cloth, (2, 2)), (True, [(1, 1), (2, 1), (2, 2), (1, 2)]))

    def test_the_cloth_is_not_changed(self):
        for shade, cols, rows in large_parts():
            cloth = Cloth(shade, list(cols), list(rows))
            self.spoil(seams(cloth))
            rounds(cloth).clear()
            self.assertEqual((cloth.shade(), cloth.cols(), cloth.rows()), (shade, cols, rows))


if __name__ == "__main__":
    unittest.main()

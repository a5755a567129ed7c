"""Points 16, 17 and 18 and the interface's sashiko/rolled.py."""

import itertools
import random
import unittest

from sashiko.rolled import Ring, dyed, drift, ring_rounds, round_at
from samples import NO_BITS, OTHER_WAYS, SIXTY_FIGURES, beyond, lines_of, mixed_bits, refused, spoil_all

SIDES = tuple(range(2, 41, 2))


def small_bits():
    """The bits of all rings up to 4 by 4."""
    for wide, tall in itertools.product((2, 4), (2, 4)):
        for bits in itertools.product((0, 1), repeat=wide + tall):
            yield list(bits[:wide]), list(bits[wide:])


def large_bits():
    """The bits of larger rings, the same ones each time."""
    source = random.Random(16)
    for wide, tall in ((2, 40), (40, 2), (6, 4), (4, 10), (12, 12), (26, 8), (40, 38), (40, 40)):
        yield mixed_bits(source, wide), mixed_bits(source, tall)
    for bits in ([0] * 40, [1] * 40, [0, 1] * 20, [1, 0, 0, 1] * 10):
        yield list(bits), list(bits)
        yield list(bits), [1, 0]
    for side in SIDES:
        yield mixed_bits(source, side), mixed_bits(source, 42 - side)


def all_bits():
    return list(small_bits()) + list(large_bits())


def stitches_from(cols, rows):
    """For each point its stitches as (to, across, upward), first the one along its row, then along its column."""
    wide, tall = len(cols), len(rows)
    along_rows, along_cols = {}, {}
    for k, s in itertools.product(range(tall), range(wide)):
        if (s + rows[k]) % 2:
            along_rows[s, k] = (((s + 1) % wide, k), 1, 0)
            along_rows[(s + 1) % wide, k] = ((s, k), -1, 0)
    for k, s in itertools.product(range(wide), range(tall)):
        if (s + cols[k]) % 2:
            along_cols[k, s] = ((k, (s + 1) % tall), 0, 1)
            along_cols[k, (s + 1) % tall] = ((k, s), 0, -1)
    return along_rows, along_cols


def plain_rounds(cols, rows):
    """All rounds by their stitches, told from the least even point of each set of points."""
    along_rows, along_cols = stitches_from(cols, rows)
    left, found = set(along_rows), []
    while left:
        start = min(point for point in left if sum(point) % 2 == 0)
        points, steps, here = [], [0, 0], start
        while not points or here != start:
            points.append(here)
            here, across, upward = (along_cols if len(points) % 2 == 0 else along_rows)[here]
            steps[0] += across
            steps[1] += upward
        left -= set(points)
        found.append((points, steps[0] // len(cols), steps[1] // len(rows)))
    return found


def ring_points(ring):
    return [(x, y) for x in range(ring.wide()) for y in range(ring.tall())]


def points_beyond(ring):
    """Points that a ring does not have, beside each border by one and far."""
    wide, tall, far = ring.wide(), ring.tall(), SIXTY_FIGURES
    return (
        (-1, 0), (0, -1), (-1, -1), (wide, 0), (0, tall), (wide, tall), (wide - 1, tall), (wide, tall - 1),
        (-wide, 0), (0, -tall), (2 * wide, 0), (0, 99), (far, 0), (0, far), (-far, 1), (1, -far),
    )


def sides_of(cols, rows):
    """For each step of each line the two cells on either side of it and whether it is a stitch."""
    wide, tall = len(cols), len(rows)
    for way, k, bit in lines_of(cols, rows):
        for s in range(tall if way == "col" else wide):
            one = ((k - 1) % wide, s) if way == "col" else (s, (k - 1) % tall)
            other = (k, s) if way == "col" else (s, k)
            yield one, other, (s + bit) % 2 == 1


def plain_dye(cols, rows):
    """The colours of the cells from (0, 0) on, spread from side to side, or None where two sides go against it."""
    near = {}
    for one, other, sewn in sides_of(cols, rows):
        near.setdefault(one, []).append((other, sewn))
        near.setdefault(other, []).append((one, sewn))
    colours, ahead = {(0, 0): 0}, [(0, 0)]
    while ahead:
        cell = ahead.pop()
        for other, sewn in near[cell]:
            colour = 1 - colours[cell] if sewn else colours[cell]
            if other not in colours:
                colours[other] = colour
                ahead.append(other)
            elif colours[other] != colour:
                return None
    return [[colours[x, y] for x in range(len(cols))] for y in range(len(rows))]


class Making(unittest.TestCase):
    def test_every_pair_of_lengths_up_to_43(self):
        for wide, tall in itertools.product(range(44), range(44)):
            if wide in SIDES and tall in SIDES:
                ring = Ring([0] * wide, [1] * tall)
                self.assertEqual((ring.wide(), ring.tall()), (wide, tall))
            else:
                refused(self, "BadSize", Ring, [0] * wide, [1] * tall)

    def test_lists_far_too_long(self):
        refused(self, "BadSize", Ring, [0] * 400, [0, 0])
        refused(self, "BadSize", Ring, [0, 0], [1] * 400)

    def test_what_was_handed_in_is_told(self):
        for cols, rows in all_bits():
            ring = Ring(list(cols), list(rows))
            self.assertEqual((ring.cols(), ring.rows()), (cols, rows))
            self.assertEqual((ring.wide(), ring.tall()), (len(cols), len(rows)))
            self.assertEqual({type(told) for told in ring.cols() + [ring.wide(), ring.tall()]}, {int})
            self.assertEqual((type(ring.cols()), type(ring.rows())), (list, list))

    def test_no_bit_at_any_place(self):
        for wrong in NO_BITS + (True, False):
            for place in range(40):
                bits = [1, 0] * 20
                bits[place] = wrong
                refused(self, "BadBit", Ring, bits, [0, 1])
                refused(self, "BadBit", Ring, [0, 1], bits)

    def test_sizes_come_ahead_of_bits(self):
        for wrong in NO_BITS:
            refused(self, "BadSize", Ring, [wrong], [0, 1])
            refused(self, "BadSize", Ring, [wrong, 0], [0, 1, 1])
            refused(self, "BadSize", Ring, [wrong] * 42, [wrong] * 2)
            refused(self, "BadSize", Ring, [], [wrong, wrong])


class Steps(unittest.TestCase):
    def test_every_step_of_every_line(self):
        for cols, rows in all_bits():
            ring = Ring(cols, rows)
            for way, k, bit in lines_of(cols, rows):
                for step in range(len(rows) if way == "col" else len(cols)):
                    self.assertIs(ring.stitched(way, k, step), (step + bit) in range(1, 42, 2))

    def test_another_text_is_no_way(self):
        for cols, rows in large_bits():
            for way in OTHER_WAYS:
                refused(self, "NoLine", Ring(cols, rows).stitched, way, 0, 0)
                refused(self, "NoLine", Ring(cols, rows).stitched, way, -1, -1)

    def test_lines_and_steps_beyond(self):
        for cols, rows in large_bits():
            ring = Ring(cols, rows)
            for way, lines, steps in (("col", len(cols), len(rows)), ("row", len(rows), len(cols))):
                for k in beyond(lines):
                    refused(self, "NoLine", ring.stitched, way, k, 0)
                    refused(self, "NoLine", ring.stitched, way, k, -1)
                    refused(self, "NoLine", ring.stitched, way, k, steps)
                for step in beyond(steps):
                    refused(self, "NoStep", ring.stitched, way, 0, step)
                    refused(self, "NoStep", ring.stitched, way, lines - 1, step)


class Rounds(unittest.TestCase):
    def test_the_least_ring_written_out(self):
        ring = Ring([0, 0], [0, 0])
        # The stitches are the steps 1: from (1, 0) on to (0, 0), and from (0, 1) on to (0, 0).
        self.assertEqual(ring_rounds(ring), [([(0, 0), (1, 0), (1, 1), (0, 1)], 0, 0)])
        self.assertEqual(drift(ring), (0, 0))

    def test_right_and_left_between_the_same_two_points(self):
        self.assertEqual(ring_rounds(Ring([0, 0], [0, 1])), [([(0, 0), (1, 0), (1, 1), (0, 1)], -1, 0)])
        self.assertEqual(ring_rounds(Ring([0, 0], [1, 0])), [([(0, 0), (1, 0), (1, 1), (0, 1)], 1, 0)])
        self.assertEqual(ring_rounds(Ring([0, 1], [0, 0])), [([(0, 0), (1, 0), (1, 1), (0, 1)], 0, 1)])
        self.assertEqual(ring_rounds(Ring([1, 0], [1, 0])), [([(0, 0), (1, 0), (1, 1), (0, 1)], 1, -1)])

    def test_rounds_that_go_round_slantwise(self):
        ring = Ring([0, 1, 0, 1], [1, 0, 1, 0])
        stairs = [(0, 0), (1, 0), (1, 1), (2, 1), (2, 2), (3, 2), (3, 3), (0, 3)]
        self.assertEqual(ring_rounds(ring)[0], (stairs, 1, 1))
        self.assertEqual(drift(ring), (2, 2))

    def test_all_rounds(self):
        for cols, rows in all_bits():
            self.assertEqual(ring_rounds(Ring(cols, rows)), plain_rounds(cols, rows))

    def test_rounds_are_triples_rising_by_their_first_points(self):
        for cols, rows in all_bits():
            told = ring_rounds(Ring(cols, rows))
            self.assertEqual(type(told), list)
            for points, right, up in told:
                self.assertEqual((type(points), type(right), type(up)), (list, int, int))
                self.assertEqual({type(point) for point in points}, {tuple})
                self.assertEqual(points[0], min(point for point in points if sum(point) % 2 == 0))
                self.assertEqual(points[0][1], points[1][1])
            self.assertEqual({type(each) for each in told}, {tuple})
            firsts = [each[0][0] for each in told]
            self.assertEqual(firsts, sorted(firsts))

    def test_each_point_is_on_just_one_round(self):
        for cols, rows in all_bits():
            ring = Ring(cols, rows)
            points = [point for told in ring_rounds(ring) for point in told[0]]
            self.assertEqual(sorted(points), ring_points(ring))

    def test_the_round_at_every_point(self):
        for cols, rows in all_bits():
            ring = Ring(cols, rows)
            for told in plain_rounds(cols, rows):
                # Long rounds are asked for at fewer of their points, odd and even ones alike.
                for point in told[0][::1 + len(told[0]) // 150 * 2]:
                    self.assertEqual(round_at(ring, point), told)

    def test_every_point_of_a_large_ring(self):
        source = random.Random(17)
        cols, rows = mixed_bits(source, 40), mixed_bits(source, 40)
        ring = Ring(cols, rows)
        told = {point: each for each in plain_rounds(cols, rows) for point in each[0]}
        for point in ring_points(ring):
            self.assertEqual(round_at(ring, point), told[point])

    def test_points_beyond(self):
        for cols, rows in all_bits():
            ring = Ring(cols, rows)
            for point in points_beyond(ring):
                refused(self, "NoPoint", round_at, ring, point)

    def test_drift_is_the_sums(self):
        for cols, rows in all_bits():
            ring = Ring(cols, rows)
            told = ring_rounds(ring)
            self.assertEqual(drift(ring), (sum(each[1] for each in told), sum(each[2] for each in told)))
            self.assertEqual(type(drift(ring)), tuple)

    def test_drift_by_the_bits_alone(self):
        # Each row's stitches are all gone to the right or all to the left, half of its steps; columns likewise.
        for cols, rows in all_bits():
            right = sum(1 if (y + bit) % 2 else -1 for y, bit in enumerate(rows)) // 2
            up = sum(1 if (x + bit) % 2 == 0 else -1 for x, bit in enumerate(cols)) // 2
            self.assertEqual(drift(Ring(cols, rows)), (right, up))


class Dyeing(unittest.TestCase):
    def test_rings_written_out(self):
        self.assertEqual(dyed(Ring([0, 0], [0, 0])), [[0, 0], [0, 1]])
        self.assertEqual(dyed(Ring([1, 1], [0, 0])), [[0, 1], [0, 0]])
        self.assertEqual(dyed(Ring([0, 0], [1, 1, 0, 0])), [[0, 0], [1, 0], [1, 1], [1, 0]])

    def test_rings_that_can_not_be_dyed(self):
        for cols, rows in (([0, 1], [0, 0]), ([0, 0], [1, 0]), ([1, 0], [0, 1]), ([1] * 39 + [0], [0] * 40)):
            self.assertIsNone(dyed(Ring(cols, rows)))

    def test_all_rings_against_a_plain_spreading(self):
        found = []
        for cols, rows in all_bits():
            told = dyed(Ring(cols, rows))
            self.assertEqual(told, plain_dye(cols, rows))
            found.append(told is None)
        self.assertEqual(set(found), {True, False})

    def test_cells_are_unlike_just_where_a_stitch_lies_between(self):
        for cols, rows in all_bits():
            table = dyed(Ring(cols, rows))
            if table is None:
                continue
            self.assertEqual(table[0][0], 0)
            self.assertEqual((len(table), {len(row) for row in table}), (len(rows), {len(cols)}))
            for one, other, sewn in sides_of(cols, rows):
                self.assertEqual(table[one[1]][one[0]] != table[other[1]][other[0]], sewn)


def all_answers(ring):
    told = [ring.cols(), ring.rows(), ring.wide(), ring.tall(), ring_rounds(ring), drift(ring), dyed(ring)]
    told.append([round_at(ring, point) for point in ring_points(ring)[:40:3]])
    told.append([ring.stitched("col", k, step) for k in range(ring.wide()) for step in range(ring.tall())])
    told.append([ring.stitched("row", k, step) for k in range(ring.tall()) for step in range(ring.wide())])
    return told


class Unchanging(unittest.TestCase):
    def test_lists_handed_in_are_not_changed(self):
        for cols, rows in all_bits():
            given_cols, given_rows = list(cols), list(rows)
            all_answers(Ring(given_cols, given_rows))
            self.assertEqual((given_cols, given_rows), (cols, rows))

    def test_lists_handed_in_are_changed_afterwards(self):
        for cols, rows in all_bits():
            ring = Ring(cols, rows)
            ahead = all_answers(ring)
            spoil_all(cols)
            spoil_all(rows)
            self.assertEqual(all_answers(ring), ahead)

    def test_lists_told_are_changed_afterwards(self):
        for cols, rows in all_bits():
            ring = Ring(cols, rows)
            ahead = all_answers(ring)
            spoil_all(all_answers(ring))
            self.assertEqual(all_answers(ring), ahead)

    def test_one_list_handed_in_twice(self):
        bits = [1, 0, 1, 1]
        ring = Ring(bits, bits)
        bits[0] = 0
        ring.cols().clear()
        self.assertEqual((ring.cols(), ring.rows()), ([1, 0, 1, 1], [1, 0, 1, 1]))

    def test_refusals_leave_all_as_it_was(self):
        ring = Ring([0, 1, 1, 0], [1, 0])
        ahead = all_answers(ring)
        refused(self, "NoLine", ring.stitched, "col", 4, 0)
        refused(self, "NoStep", ring.stitched, "col", 0, 2)
        refused(self, "NoPoint", round_at, ring, (0, 2))
        self.assertEqual(all_answers(ring), ahead)


if __name__ == "__main__":
    unittest.main()

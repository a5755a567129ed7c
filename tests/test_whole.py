"""What the points promise over the whole program: cloths are the same however they were made, and answers stay."""

import copy
import random
import unittest

from sashiko.chest import Chest
from sashiko.cloth import Cloth, alike
from sashiko.finds import Finds
from sashiko.notes import chest_text, cloth_text, finds_text, read_chest, read_cloth, read_finds
from sashiko.picture import cloth_of, even_blocks, picture
from sashiko.regions import fence, path, region, regions
from sashiko.rolled import Ring, drift, dyed, ring_rounds, round_at
from sashiko.seams import joined, rounds, seam, seams
from sashiko.sew import backed, cut, mirrored, parted, put, sewn_together, transposed, turned
from sashiko.within import area, around, box, inside, nests
from samples import (
    BORDER_SIZES, large_parts, mixed_bits, nested_parts, small_parts, spoil_all, stitches_of, told_of,
)


def sample_parts():
    return list(small_parts())[::9] + list(large_parts())[::2] + list(nested_parts())[::3]


def sewn_again(cloth, way, k):
    left, right = parted(cloth, way, k)
    return sewn_together(left, right, way)


def from_finds(cloth):
    """The cloth that the colours of its first row and column settle."""
    finds = Finds(cloth.wide(), cloth.tall())
    for x in range(cloth.wide()):
        finds.note(("cell", x, 0, cloth.colour(x, 0)))
    for y in range(1, cloth.tall()):
        finds.note(("cell", 0, y, cloth.colour(0, y)))
    return finds.cloth(0)


def from_chest(cloth):
    """The cloth that comes out of a chest behind deeds, undone ones too."""
    chest = Chest()
    chest.lay("a", turned(cloth, "col", 0) if cloth.wide() > 1 else cloth)
    if cloth.wide() > 1:
        chest.turn("a", "col", 0)
        chest.part("a", "col", 0, "b")
        chest.undo()
    return read_chest(chest_text(chest.twin())).cloth("a")


def made_otherwise(cloth):
    """The same cloth made in all other ways, by the names of the ways."""
    made = {
        "picture": cloth_of(picture(cloth)), "text": read_cloth(cloth_text(cloth)), "backed": backed(backed(cloth)),
        "mirrored": mirrored(mirrored(cloth)), "transposed": transposed(transposed(cloth)),
        "finds": from_finds(cloth), "chest": from_chest(cloth),
    }
    for way, lines in (("col", cloth.wide() - 1), ("row", cloth.tall() - 1)):
        for k in sorted({0, lines // 2, lines - 1} & set(range(lines))):
            made["parted", way, k] = sewn_again(cloth, way, k)
            made["turned", way, k] = turned(turned(cloth, way, k), way, k)
            made["cut", way, k] = put(cut(cloth, way, k), way, k, cloth.bit(way, k))
    return made


def plain_round_count(cols, rows):
    """How many seams and how many round ones there are, by the sets of points that stitches bind."""
    lead, border = {}, {}
    for pair in stitches_of(cols, rows):
        for point in pair:
            lead.setdefault(point, point)

    def top(point):
        while lead[point] != point:
            point = lead[point]
        return point

    for one, other in stitches_of(cols, rows):
        lead[top(one)] = top(other)
    for x, y in lead:
        at_border = x in (0, len(cols) + 1) or y in (0, len(rows) + 1)
        border[top((x, y))] = border.get(top((x, y)), False) or at_border
    return len(border), list(border.values()).count(False)


class MadeOtherwise(unittest.TestCase):
    def test_the_same_cloth(self):
        for parts in sample_parts():
            cloth = Cloth(*parts)
            for name, other in made_otherwise(cloth).items():
                with self.subTest(name):
                    self.assertTrue(alike(cloth, other))
                    self.assertEqual(told_of(other), parts)
                    numbers = [other.shade(), other.wide()] + other.cols() + other.rows()
                    self.assertEqual({type(number) for number in numbers}, {int})

    def test_the_same_seams(self):
        for parts in sample_parts()[::4]:
            cloth = Cloth(*parts)
            told = (seams(cloth), nests(cloth), regions(cloth))
            for name, other in made_otherwise(cloth).items():
                with self.subTest(name):
                    self.assertEqual((seams(other), nests(other), regions(other)), told)

    def test_the_seams_of_what_is_made(self):
        for parts in list(large_parts())[3::3]:
            cloth = Cloth(*parts)
            made = [backed(cloth), mirrored(cloth), transposed(cloth)]
            made += [part for way, k in (("col", 0), ("row", 0)) for part in parted(cloth, way, k)]
            made += [read_cloth(cloth_text(part)) for part in made]
            for other in made:
                found = seams(other)
                self.assertEqual(found, seams(Cloth(*told_of(other))))
                counts = (len(found), len(rounds(other)))
                self.assertEqual(counts, plain_round_count(other.cols(), other.rows()))


def questions(cloth):
    """All that can be asked of a cloth, as calls."""
    wide, tall = cloth.wide(), cloth.tall()
    last = (wide - 1, tall - 1)
    asked = [lambda f=f: f(cloth) for f in (seams, rounds, nests, regions, picture, cloth_text, told_of)]
    asked += [lambda f=f: told_of(f(cloth)) for f in (mirrored, transposed, backed)]
    asked += [lambda f=f: f(cloth, (0, 0), last) for f in (path, fence)]
    asked += [lambda f=f: f(cloth, *last) for f in (region, around)]
    asked += [lambda f=f: f(cloth, (wide // 2, tall // 2)) for f in (joined, seam)]
    asked += [lambda: even_blocks(picture(cloth))]
    return asked + [lambda f=f: [f(line) for line in rounds(cloth)] for f in (box, inside, area)]


def ring_questions(ring):
    return [lambda f=f: f(ring) for f in (ring_rounds, drift, dyed)] + [lambda: round_at(ring, (1, 1))]


class Unchanging(unittest.TestCase):
    def check_questions(self, asked):
        for ask in asked:
            ahead = copy.deepcopy(ask())
            spoil_all(ask())
            self.assertEqual(ask(), ahead)

    def test_told_lists_are_changed_afterwards(self):
        for parts in list(nested_parts())[:4] + list(large_parts())[:6]:
            self.check_questions(questions(Cloth(*parts)))

    def test_told_lists_of_rings_are_changed_afterwards(self):
        source = random.Random(2)
        for wide, tall in ((2, 2), (4, 6), (40, 12)):
            self.check_questions(ring_questions(Ring(mixed_bits(source, wide), mixed_bits(source, tall))))

    def test_tables_and_lines_handed_in_are_not_changed(self):
        cloth = Cloth(*list(nested_parts())[2])
        table, line = picture(cloth), rounds(cloth)[0]
        kept_table, kept_line = copy.deepcopy(table), copy.deepcopy(line)
        made = cloth_of(table)
        told = (even_blocks(table), box(line), inside(line), area(line))
        self.assertEqual((table, line), (kept_table, kept_line))
        spoil_all(table)
        spoil_all(line)
        self.assertEqual((told_of(made), told[0]), (told_of(cloth), []))


class Bounds(unittest.TestCase):
    def test_texts_of_the_largest_chest_and_finds_keep_to_their_bound(self):
        source = random.Random(3)
        chest = Chest()
        for number in range(60):
            name = "abcdefghij" + "klmnopqrst"[number % 10] + "uvwxyz"[number // 10]
            chest.lay(name, Cloth(1, mixed_bits(source, 39), mixed_bits(source, 39)))
        text = chest_text(chest)
        self.assertLess(len(text), 20000)
        self.assertEqual(chest_text(read_chest(text)), text)
        finds = Finds(40, 40)
        cloth = Cloth(1, mixed_bits(source, 39), mixed_bits(source, 39))
        for number in range(400):
            k, step = number % 39, number // 39 + 20
            finds.note(("col", k, step, cloth.stitched("col", k, step)))
        text = finds_text(finds)
        self.assertLess(len(text), 20000)
        self.assertEqual(finds_text(read_finds(text)), text)

    def test_every_size_at_the_bounds_in_finds_and_texts(self):
        for wide, tall in BORDER_SIZES:
            finds = Finds(wide, tall)
            cloth = finds.cloth(finds.count() - 1)
            self.assertEqual(told_of(read_cloth(cloth_text(cloth))), (1, [1] * (wide - 1), [1] * (tall - 1)))


if __name__ == "__main__":
    unittest.main()

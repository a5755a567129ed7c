"""Points 19 to 23 and the interface's sashiko/finds.py."""

import itertools
import random
import unittest

from sashiko.cloth import Cloth, alike
from sashiko.finds import Finds, shows
from sashiko.picture import picture
from samples import (
    BORDER_SIZES, NO_BITS, OTHER_WAYS, SIXTY_FIGURES, all_parts, beyond, lines_of, mixed_bits, refused, told_of,
)

SMALL_SIZES = ((1, 1), (1, 2), (2, 1), (1, 4), (4, 1), (2, 2), (2, 3), (3, 2), (3, 3), (4, 2))


def line_steps(way, wide, tall):
    return tall if way == "col" else wide


def all_facts(wide, tall):
    """Every fact about a cloth of that size, true or false."""
    found = [("cell", x, y, colour) for x in range(wide) for y in range(tall) for colour in (0, 1)]
    for way, k, bit in lines_of([0] * (wide - 1), [0] * (tall - 1)):
        found += [(way, k, step, sewn) for step in range(line_steps(way, wide, tall)) for sewn in (True, False)]
    return found


def true_facts(cloth):
    """Every fact that a cloth shows, by its picture and its steps."""
    table = picture(cloth)
    found = [("cell", x, y, table[y][x]) for x in range(cloth.wide()) for y in range(cloth.tall())]
    for way, k, bit in lines_of(cloth.cols(), cloth.rows()):
        for step in range(line_steps(way, cloth.wide(), cloth.tall())):
            found.append((way, k, step, (step + bit) % 2 == 1))
    return found


def row_of(cloth):
    """A cloth's row of numbers as point 23 tells it."""
    return [cloth.shade()] + cloth.cols() + cloth.rows()


def all_cloths_of(wide, tall):
    """All cloths of a size by their rows of numbers, rising."""
    for row in itertools.product((0, 1), repeat=wide + tall - 1):
        yield Cloth(row[0], list(row[1:wide]), list(row[wide:]))


def strips_of(fact):
    """The strips that a fact ties, as point 20 names them."""
    kind, first, second, last = fact
    return {
        "cell": (("x", first), ("y", second)), "col": (("x", first), ("x", first + 1)),
        "row": (("y", first), ("y", first + 1)),
    }[kind]


def weight_of(fact):
    """The weight of a fact, as point 20 tells it."""
    kind, first, second, last = fact
    if kind == "cell":
        return (last + first * second) % 2
    return next(bit for bit in (0, 1) if ((second + bit) % 2 == 1) == last)


def check_reasons(test, finds, numbers, one, other):
    """Walks reasons tie by tie from one strip to the other; gives the sum of their weights by two."""
    facts = dict(finds.kept())
    test.assertIs(type(numbers), list)
    test.assertEqual(len(set(numbers)), len(numbers))
    test.assertGreater(len(numbers), 0)
    here = one
    for number in numbers:
        strips = strips_of(facts[number])
        test.assertIn(here, strips)
        here = strips[1] if strips[0] == here else strips[0]
    test.assertEqual(here, other)
    return sum(weight_of(facts[number]) for number in numbers) % 2


def groups_count(finds):
    """How many groups the kept facts make of the strips."""
    lead = {("x", x): ("x", x) for x in range(finds.wide())}
    lead.update({("y", y): ("y", y) for y in range(finds.tall())})
    for number, fact in finds.kept():
        one, other = (lead[strip] for strip in strips_of(fact))
        lead = {strip: one if held == other else held for strip, held in lead.items()}
    return len(set(lead.values()))


def settled_of(finds):
    """All colours and bits that finds tell."""
    wide, tall = finds.wide(), finds.tall()
    colours = {(x, y): finds.colour(x, y) for x in range(wide) for y in range(tall)}
    bits = {(way, k): finds.bit(way, k) for way, k, bit in lines_of([0] * (wide - 1), [0] * (tall - 1))}
    return {**colours, **bits}


def check_why(test, finds):
    """Holds all reasons to the colours and bits that are told."""
    for (first, second), told in settled_of(finds).items():
        if first in ("col", "row"):
            letter = "x" if first == "col" else "y"
            numbers, ends, product = finds.why_bit(first, second), ((letter, second), (letter, second + 1)), 0
        else:
            numbers, ends, product = finds.why_colour(first, second), (("x", first), ("y", second)), first * second
        if told is None:
            test.assertIsNone(numbers)
        else:
            test.assertEqual((check_reasons(test, finds, numbers, *ends) + product) % 2, told)


def agreed(values):
    return values[0] if len(set(values)) == 1 else None


def check_against_search(test, finds):
    """Holds all that finds tell to the cloths of their size that show all kept facts, found one by one."""
    facts = {fact for number, fact in finds.kept()}
    cloths = [cloth for cloth in all_cloths_of(finds.wide(), finds.tall()) if facts <= set(true_facts(cloth))]
    test.assertEqual(finds.count(), len(cloths))
    test.assertEqual(1 << finds.loose(), len(cloths))
    test.assertEqual([told_of(finds.cloth(number)) for number in range(len(cloths))], [told_of(c) for c in cloths])
    refused(test, "BadNumber", finds.cloth, len(cloths))
    for place, told in settled_of(finds).items():
        values = [c.bit(*place) if place[0] in ("col", "row") else c.colour(*place) for c in cloths]
        test.assertEqual(told, agreed(values))
    for cloth in all_cloths_of(finds.wide(), finds.tall()):
        test.assertIs(finds.fits(cloth), any(alike(cloth, other) for other in cloths))
    check_why(test, finds)
    test.assertEqual(len(finds.looks()), finds.loose())


def noted(wide, tall, facts):
    finds = Finds(wide, tall)
    for fact in facts:
        finds.note(fact)
    return finds


def mixed_finds(source, wide, tall, count):
    """Finds of a size with that many facts of one cloth, fewer where it has no more."""
    facts = true_facts(Cloth(source.randrange(2), mixed_bits(source, wide - 1), mixed_bits(source, tall - 1)))
    return noted(wide, tall, source.sample(facts, min(count, len(facts))))


def sample_finds():
    """Finds of several sizes with few and many facts, the same ones each time."""
    source = random.Random(19)
    for wide, tall in BORDER_SIZES + ((5, 7), (13, 8), (20, 31)):
        for count in (0, 3, wide + tall - 2, 3 * (wide + tall)):
            yield mixed_finds(source, wide, tall, min(count, 400))


def all_answers(finds):
    """All that finds tell, as values that can be compared."""
    told = [finds.wide(), finds.tall(), finds.kept(), settled_of(finds), finds.loose(), finds.looks(), finds.count()]
    told.append([told_of(finds.cloth(number)) for number in {0, finds.count() // 3, finds.count() - 1}])
    cells = [(0, 0), (finds.wide() - 1, finds.tall() - 1)]
    return told + [[finds.why_colour(*cell) is None for cell in cells]]


class Shows(unittest.TestCase):
    def test_all_three_forms(self):
        cloth = Cloth(1, [0, 1], [1])
        for fact in (("cell", 0, 0, 1), ("cell", 2, 1, 1), ("col", 0, 1, True), ("col", 0, 0, False)):
            self.assertIs(shows(cloth, fact), True)
        for fact in (("row", 0, 0, True), ("row", 0, 1, False), ("row", 0, 2, True)):
            self.assertIs(shows(cloth, fact), True)
        for fact in (("cell", 0, 0, 0), ("col", 1, 0, False), ("row", 0, 2, False), ("row", 0, 1, True)):
            self.assertIs(shows(cloth, fact), False)

    def test_every_fact_of_sample_cloths(self):
        for parts in all_parts()[::7] + all_parts()[-8:]:
            cloth = Cloth(*parts)
            true_ones = set(true_facts(cloth))
            for fact in all_facts(cloth.wide(), cloth.tall()):
                self.assertIs(shows(cloth, fact), fact in true_ones)


class Making(unittest.TestCase):
    def test_sizes(self):
        for wide, tall in itertools.product(range(1, 41), (1, 2, 17, 39, 40)):
            for sides in ((wide, tall), (tall, wide)):
                finds = Finds(*sides)
                self.assertEqual((finds.wide(), finds.tall()), sides)

    def test_sizes_beyond(self):
        for wrong in (0, -1, -40, 41, 42, 400, SIXTY_FIGURES, -SIXTY_FIGURES, True):
            for right in (1, 2, 40):
                refused(self, "BadSize", Finds, wrong, right)
                refused(self, "BadSize", Finds, right, wrong)
            refused(self, "BadSize", Finds, wrong, wrong)

    def test_new_finds_settle_nothing(self):
        for wide, tall in BORDER_SIZES:
            finds = Finds(wide, tall)
            self.assertEqual((finds.kept(), finds.loose()), ([], wide + tall - 1))
            self.assertEqual(set(settled_of(finds).values()), {None})
            self.assertEqual(finds.count(), 2 ** (wide + tall - 1))


class Noting(unittest.TestCase):
    def test_facts_are_numbered_as_they_come(self):
        finds = Finds(3, 3)
        facts = [("cell", 2, 1, 0), ("row", 1, 2, True), ("col", 0, 0, False), ("cell", 0, 0, 1)]
        self.assertEqual([finds.note(fact) for fact in facts], [0, 1, 2, 3])
        self.assertEqual(finds.kept(), list(enumerate(facts)))
        self.assertEqual({type(pair) for pair in finds.kept()}, {tuple})

    def test_every_fact_of_a_cloth(self):
        for parts in ((1, [], []), (0, [1, 0, 1], [0, 1]), (1, [0], [1] * 7)):
            facts = true_facts(Cloth(*parts))
            finds = Finds(len(parts[1]) + 1, len(parts[2]) + 1)
            self.assertEqual([finds.note(fact) for fact in facts], list(range(len(facts))))
            self.assertEqual((finds.loose(), finds.looks(), finds.count()), (0, [], 1))
            self.assertEqual(told_of(finds.cloth(0)), parts)

    def test_a_number_is_not_given_twice(self):
        finds = Finds(2, 2)
        facts = [("cell", 0, 0, 1), ("cell", 1, 0, 1), ("row", 0, 0, True)]
        for fact in facts:
            finds.note(fact)
        finds.withdraw(2)
        self.assertEqual(finds.note(facts[2]), 3)
        finds.withdraw(0)
        self.assertEqual(finds.note(facts[0]), 4)
        self.assertEqual(finds.kept(), [(1, facts[1]), (3, facts[2]), (4, facts[0])])
        for number in (1, 3, 4):
            finds.withdraw(number)
        self.assertEqual((finds.kept(), finds.note(facts[0])), ([], 5))

    def test_a_refused_fact_takes_no_number(self):
        finds = Finds(2, 2)
        finds.note(("cell", 0, 0, 1))
        for name, fact in (("Known", ("cell", 0, 0, 1)), ("Clash", ("cell", 0, 0, 0)), ("NoCell", ("cell", 2, 0, 1))):
            refused(self, name, finds.note, fact)
        self.assertEqual(finds.note(("cell", 1, 1, 0)), 1)

    def test_cells_beyond_come_ahead_of_colours(self):
        for wide, tall in BORDER_SIZES:
            finds = Finds(wide, tall)
            for x in beyond(wide):
                refused(self, "NoCell", finds.note, ("cell", x, 0, 0))
                refused(self, "NoCell", finds.note, ("cell", x, tall - 1, 2))
            for y in beyond(tall):
                refused(self, "NoCell", finds.note, ("cell", 0, y, 1))
                refused(self, "NoCell", finds.note, ("cell", wide - 1, y, -1))
            for wrong in NO_BITS + (True, False):
                refused(self, "BadBit", finds.note, ("cell", wide - 1, tall - 1, wrong))
            self.assertEqual(finds.kept(), [])

    def test_lines_beyond_come_ahead_of_steps(self):
        for wide, tall in BORDER_SIZES:
            finds = Finds(wide, tall)
            for way, lines in (("col", wide - 1), ("row", tall - 1)):
                for k, sewn in itertools.product(beyond(lines), (True, False)):
                    refused(self, "NoLine", finds.note, (way, k, 0, sewn))
                    refused(self, "NoLine", finds.note, (way, k, -1, sewn))
                for k, step in itertools.product(range(lines), beyond(line_steps(way, wide, tall))):
                    refused(self, "NoStep", finds.note, (way, k, step, True))
            self.assertEqual(finds.kept(), [])

    def test_known_facts(self):
        for fact in all_facts(3, 2):
            finds = Finds(3, 2)
            finds.note(fact)
            refused(self, "Known", finds.note, tuple(list(fact)))
            self.assertEqual(finds.kept(), [(0, fact)])
            finds.withdraw(0)
            self.assertEqual(finds.note(fact), 1)

    def test_facts_that_tell_the_same_are_not_the_same(self):
        finds = Finds(2, 3)
        self.assertEqual(finds.note(("col", 0, 0, True)), 0)
        self.assertEqual(finds.note(("col", 0, 1, False)), 1)
        self.assertEqual(finds.note(("col", 0, 2, True)), 2)
        finds.withdraw(0)
        self.assertEqual(finds.bit("col", 0), 1)

    def test_the_opposite_clashes(self):
        for fact in all_facts(3, 2):
            finds = Finds(3, 2)
            finds.note(fact)
            other = fact[:3] + ((not fact[3]) if fact[0] != "cell" else 1 - fact[3],)
            self.assertEqual(refused(self, "Clash", finds.note, other).ring, [0])

    def test_clashes_have_reasons_of_another_sum(self):
        source = random.Random(22)
        for wide, tall in ((2, 2), (3, 4), (6, 5), (40, 40)):
            finds = mixed_finds(source, wide, tall, 3 * (wide + tall))
            for fact in source.sample(all_facts(wide, tall), min(300, wide * tall)):
                settled = finds.colour(*fact[1:3]) if fact[0] == "cell" else finds.bit(*fact[:2])
                product = fact[1] * fact[2] if fact[0] == "cell" else 0
                if settled is not None and (settled + product) % 2 != weight_of(fact):
                    ahead = finds.kept()
                    error = refused(self, "Clash", finds.note, fact)
                    total = check_reasons(self, finds, error.ring, *strips_of(fact))
                    self.assertNotEqual(total, weight_of(fact))
                    error.ring.clear()
                    self.assertEqual(finds.kept(), ahead)

    def test_each_fact_is_refused_just_where_no_cloth_shows_it_too(self):
        source = random.Random(23)
        for wide, tall in SMALL_SIZES:
            finds = mixed_finds(source, wide, tall, (wide + tall) // 2)
            for fact in all_facts(wide, tall):
                other = finds.twin()
                if fact in dict(finds.kept()).values():
                    refused(self, "Known", other.note, fact)
                elif any(finds.fits(cloth) and shows(cloth, fact) for cloth in all_cloths_of(wide, tall)):
                    other.note(fact)
                else:
                    refused(self, "Clash", other.note, fact)


class Withdrawing(unittest.TestCase):
    def test_numbers_that_are_not_kept(self):
        finds = noted(2, 2, [("cell", 0, 0, 1), ("cell", 1, 0, 1)])
        finds.withdraw(0)
        for wrong in (0, -1, -2, 2, 3, 400, SIXTY_FIGURES, -SIXTY_FIGURES, True):
            refused(self, "NoFact", finds.withdraw, wrong)
        self.assertEqual(finds.kept(), [(1, ("cell", 1, 0, 1))])
        self.assertIsNone(finds.withdraw(1))
        refused(self, "NoFact", finds.withdraw, 1)
        refused(self, "NoFact", Finds(1, 1).withdraw, 0)

    def test_as_if_they_had_never_been_noted(self):
        source = random.Random(24)
        for finds in sample_finds():
            for number in source.sample(list(dict(finds.kept())), len(finds.kept()) // 2):
                finds.withdraw(number)
            other = noted(finds.wide(), finds.tall(), [fact for number, fact in finds.kept()])
            self.assertEqual(settled_of(finds), settled_of(other))
            self.assertEqual((finds.loose(), finds.count()), (other.loose(), other.count()))
            self.assertEqual(told_of(finds.cloth(0)), told_of(other.cloth(0)))
            self.assertEqual([pair[0] for pair in finds.kept()], sorted(dict(finds.kept())))
            check_why(self, finds)

    def test_a_clash_is_gone_with_its_reasons(self):
        finds = noted(3, 1, [("col", 0, 0, True), ("cell", 0, 0, 0)])
        error = refused(self, "Clash", finds.note, ("cell", 1, 0, 0))
        self.assertEqual(sorted(error.ring), [0, 1])
        finds.withdraw(0)
        self.assertEqual(finds.note(("cell", 1, 0, 0)), 2)
        self.assertEqual(finds.bit("col", 0), 0)


class Search(unittest.TestCase):
    def test_small_finds_against_a_plain_search(self):
        source = random.Random(21)
        for wide, tall in SMALL_SIZES:
            finds = Finds(wide, tall)
            check_against_search(self, finds)
            for fact in source.sample(all_facts(wide, tall), min(12, 2 * wide * tall)):
                try:
                    finds.note(fact)
                except ValueError:
                    continue
                if source.randrange(4) == 0:
                    finds.withdraw(source.choice(finds.kept())[0])
                check_against_search(self, finds)

    def test_every_single_fact(self):
        for fact in all_facts(3, 2):
            check_against_search(self, noted(3, 2, [fact]))


class Settled(unittest.TestCase):
    def test_written_out(self):
        finds = noted(3, 3, [("cell", 1, 1, 0), ("cell", 1, 2, 1), ("row", 0, 0, True)])
        self.assertEqual((finds.colour(1, 1), finds.colour(1, 2), finds.colour(0, 0)), (0, 1, None))
        self.assertEqual((finds.bit("row", 1), finds.bit("row", 0), finds.bit("col", 0)), (0, 1, None))
        self.assertEqual((finds.why_colour(1, 1), finds.why_bit("row", 1), finds.why_bit("row", 0)), ([0], [0, 1], [2]))
        self.assertEqual((finds.why_colour(0, 0), finds.why_bit("col", 1)), (None, None))
        self.assertEqual((finds.colour(1, 0), finds.why_colour(1, 0)), (0, [0, 2]))
        self.assertEqual((finds.loose(), finds.count()), (2, 4))

    def test_reasons_of_sample_finds(self):
        for finds in sample_finds():
            check_why(self, finds)

    def test_settled_ones_are_as_in_the_cloths(self):
        for finds in sample_finds():
            cloths = [finds.cloth(0), finds.cloth(finds.count() - 1)]
            for place, told in settled_of(finds).items():
                values = [c.bit(*place) if place[0] in ("col", "row") else c.colour(*place) for c in cloths]
                if told is not None:
                    self.assertEqual(values, [told, told])
                    self.assertIs(type(told), int)

    def test_cells_beyond(self):
        for wide, tall in BORDER_SIZES:
            finds = noted(wide, tall, [("cell", 0, 0, 1)])
            for ask in (finds.colour, finds.why_colour):
                for x in beyond(wide):
                    refused(self, "NoCell", ask, x, 0)
                    refused(self, "NoCell", ask, x, tall - 1)
                for y in beyond(tall):
                    refused(self, "NoCell", ask, 0, y)
                    refused(self, "NoCell", ask, wide - 1, y)

    def test_lines_beyond(self):
        for wide, tall in BORDER_SIZES:
            finds = noted(wide, tall, [("cell", 0, 0, 1)])
            for ask in (finds.bit, finds.why_bit):
                for way, lines in (("col", wide - 1), ("row", tall - 1)):
                    for k in beyond(lines):
                        refused(self, "NoLine", ask, way, k)
                for way in OTHER_WAYS + ("cell",):
                    refused(self, "NoLine", ask, way, 0)


class Looks(unittest.TestCase):
    def test_the_least_count(self):
        for finds in sample_finds():
            # With one look less some strips would stay untied, so that two cloths would be left.
            self.assertEqual(finds.loose(), groups_count(finds) - 1)
            looks = finds.looks()
            self.assertEqual((type(looks), len(looks), len(set(looks))), (list, finds.loose(), finds.loose()))
            for cell in looks:
                self.assertIs(type(cell), tuple)
                self.assertIsNone(finds.colour(*cell))

    def test_every_answer_settles_all(self):
        source = random.Random(25)
        for wide, tall in SMALL_SIZES:
            for count in (0, 1, 3):
                finds = mixed_finds(source, wide, tall, count)
                for colours in itertools.product((0, 1), repeat=finds.loose()):
                    self.check_answers(finds, colours)

    def test_answers_at_the_looks_of_large_finds(self):
        source = random.Random(26)
        for finds in sample_finds():
            self.check_answers(finds, mixed_bits(source, finds.loose()))

    def check_answers(self, finds, colours):
        """Notes colours at the looks of a twin, each of which leaves half of the cloths."""
        other, left = finds.twin(), finds.count()
        for (x, y), colour in zip(finds.looks(), colours):
            other.note(("cell", x, y, colour))
            left //= 2
            self.assertEqual(other.count(), left)
        self.assertEqual((other.loose(), other.looks(), other.count()), (0, [], 1))
        self.assertNotIn(None, settled_of(other).values())
        self.assertTrue(finds.fits(other.cloth(0)))


class Numbered(unittest.TestCase):
    def test_numbers_of_many_figures(self):
        finds = noted(40, 40, [("cell", 39, 39, 1), ("row", 38, 0, True)])
        self.assertEqual((finds.loose(), finds.count()), (77, 2 ** 77))
        self.assertEqual(told_of(finds.cloth(0)), (0, [0] * 39, [0] * 37 + [1, 1]))
        last = finds.cloth(2 ** 77 - 1)
        self.assertEqual(told_of(last), (1, [1] * 39, [1] * 37 + [0, 1]))

    def test_numbers_of_finds_without_facts_are_the_rows_themselves(self):
        source = random.Random(27)
        for wide, tall in BORDER_SIZES:
            finds = Finds(wide, tall)
            for number in [source.randrange(finds.count()) for turn in range(9)]:
                self.assertEqual(int("".join(map(str, row_of(finds.cloth(number)))), 2), number)

    def test_rows_rise_with_the_numbers_and_show_the_facts(self):
        source = random.Random(28)
        for finds in sample_finds():
            numbers = sorted({source.randrange(finds.count()) for turn in range(12)})
            numbers = sorted({number + add for number in numbers for add in (0, 1) if number + add < finds.count()})
            cloths = [finds.cloth(number) for number in numbers]
            self.assertTrue(all(finds.fits(cloth) for cloth in cloths))
            rows = [row_of(cloth) for cloth in cloths]
            self.assertTrue(all(one < other for one, other in zip(rows, rows[1:])))

    def test_numbers_beyond(self):
        for finds in sample_finds():
            for wrong in (-1, -2, finds.count(), finds.count() + 1, 2 * finds.count(), SIXTY_FIGURES, -SIXTY_FIGURES):
                refused(self, "BadNumber", finds.cloth, wrong)


class Fits(unittest.TestCase):
    def test_cloths_that_show_all_and_that_do_not(self):
        finds = noted(3, 2, [("cell", 0, 0, 1), ("col", 1, 1, True)])
        self.assertIs(finds.fits(Cloth(1, [1, 0], [1])), True)
        self.assertIs(finds.fits(Cloth(0, [1, 0], [1])), False)
        self.assertIs(finds.fits(Cloth(1, [1, 1], [1])), False)

    def test_cloths_of_other_sizes(self):
        finds = noted(3, 2, [("cell", 0, 0, 1)])
        for wide, tall in itertools.product((1, 2, 3, 4, 40), (1, 2, 3, 40)):
            cloth = Cloth(1, [0] * (wide - 1), [0] * (tall - 1))
            self.assertIs(finds.fits(cloth), (wide, tall) == (3, 2))
            self.assertIs(Finds(3, 2).fits(cloth), (wide, tall) == (3, 2))
        # Smaller than where the facts lie.
        self.assertIs(noted(3, 2, [("cell", 2, 1, 1)]).fits(Cloth(1, [], [])), False)


class Twins(unittest.TestCase):
    def test_the_same_facts_numbers_and_next_number(self):
        for finds in sample_finds():
            self.assertEqual(all_answers(finds.twin()), all_answers(finds))
        finds = noted(2, 2, [("cell", 0, 0, 1), ("cell", 1, 0, 1)])
        finds.withdraw(1)
        self.assertEqual(finds.twin().kept(), [(0, ("cell", 0, 0, 1))])
        self.assertEqual(finds.twin().note(("cell", 1, 1, 1)), 2)

    def test_both_go_on_apart(self):
        finds = noted(3, 3, [("cell", 0, 0, 1), ("cell", 1, 0, 1)])
        other = finds.twin()
        ahead = all_answers(other)
        finds.withdraw(0)
        finds.note(("row", 1, 1, True))
        self.assertEqual(all_answers(other), ahead)
        ahead = all_answers(finds)
        self.assertEqual(other.note(("cell", 2, 2, 0)), 2)
        other.withdraw(1)
        self.assertEqual(all_answers(finds), ahead)
        self.assertEqual(finds.kept(), [(1, ("cell", 1, 0, 1)), (2, ("row", 1, 1, True))])
        self.assertEqual(other.kept(), [(0, ("cell", 0, 0, 1)), (2, ("cell", 2, 2, 0))])


class Unchanging(unittest.TestCase):
    def test_lists_told_are_changed_afterwards(self):
        for finds in list(sample_finds())[::3] + [noted(2, 2, [("cell", 0, 0, 1)])]:
            ahead = all_answers(finds)
            finds.kept().clear()
            finds.looks().append((0, 0))
            finds.looks().clear()
            for told in (finds.why_colour(0, 0), finds.why_bit("col", 0) if finds.wide() > 1 else None):
                if told is not None:
                    told.clear()
            self.assertEqual(all_answers(finds), ahead)

    def test_refusals_leave_all_as_it_was(self):
        finds = noted(3, 3, [("cell", 0, 0, 1), ("cell", 1, 0, 1), ("col", 1, 2, False)])
        ahead = all_answers(finds)
        wrong = (
            ("NoCell", ("cell", 3, 0, 2)), ("BadBit", ("cell", 0, 0, 2)), ("NoLine", ("row", 2, 9, True)),
            ("NoStep", ("row", 1, 3, True)), ("Known", ("col", 1, 2, False)), ("Clash", ("col", 1, 1, False)),
        )
        for name, fact in wrong:
            refused(self, name, finds.note, fact)
        refused(self, "NoFact", finds.withdraw, 3)
        refused(self, "BadNumber", finds.cloth, finds.count())
        self.assertEqual(all_answers(finds), ahead)
        self.assertEqual(finds.note(("cell", 2, 2, 0)), 3)


class Bounds(unittest.TestCase):
    def test_four_hundred_facts(self):
        source = random.Random(29)
        finds = mixed_finds(source, 40, 40, 400)
        self.assertEqual([pair[0] for pair in finds.kept()], list(range(400)))
        check_why(self, finds)
        for number in range(0, 400, 2):
            finds.withdraw(number)
        check_why(self, finds)
        self.assertEqual(finds.loose(), groups_count(finds) - 1)

    def test_a_long_chain_of_reasons(self):
        across, upward = [("col", k, k, True) for k in range(39)], [("row", k, k, False) for k in range(39)]
        finds = noted(40, 40, across + [("cell", 39, 0, 0)] + upward)
        self.assertEqual(finds.why_colour(0, 39), list(range(79)))
        self.assertEqual(finds.loose(), 0)


if __name__ == "__main__":
    unittest.main()

"""Point 25 and the interface's sashiko/notes.py."""

import itertools
import random
import unittest

from sashiko.chest import Chest
from sashiko.cloth import Cloth
from sashiko.errors import BadText
from sashiko.finds import Finds
from sashiko.notes import chest_text, cloth_text, finds_text, read_chest, read_cloth, read_finds
from samples import all_parts, held_in, mixed_bits, refused, told_of

SIGNS = [chr(code) for code in range(32, 127) if chr(code) != "%"] + ["\n"]
WORDS = " - 0 1 2 00 01 10 -1 +1 1.0 a finds cell col row sewn bare".split(" ")
BAD_NUMBERS = "00 01 007 1000000 0000001 -0 -1 +1 1_0 x 1.0 1e1".split() + ["", "9" * 5000]


def chest_of(*pairs):
    chest = Chest()
    for name, cloth in pairs:
        chest.lay(name, cloth)
    return chest


def sample_chests():
    source = random.Random(25)
    yield Chest()
    yield chest_of(("a", Cloth(0, [], [])))
    yield chest_of(("zz", Cloth(1, [0, 1], [1])), ("abcdefghijkl", Cloth(0, [], [1, 0])), ("m", Cloth(1, [1], [])))
    names = [first + second for first in "abcdefgh" for second in "stuvwxyz"][:60]
    yield chest_of(*[(name, Cloth(1, mixed_bits(source, 39), mixed_bits(source, 39))) for name in names])


def sample_finds():
    """Finds with and without facts, withdrawn ones among them."""
    yield Finds(1, 1)
    yield Finds(40, 7)
    finds = Finds(4, 3)
    for fact in (("cell", 3, 2, 1), ("col", 0, 2, True), ("col", 2, 1, False), ("row", 1, 3, True), ("cell", 0, 0, 0)):
        finds.note(fact)
    yield finds
    less = finds.twin()
    for number in (4, 1):
        less.withdraw(number)
    yield less
    none = less.twin()
    for number, fact in none.kept():
        none.withdraw(number)
    yield none
    yield large_finds()


def large_finds():
    source = random.Random(40)
    cloth = Cloth(1, mixed_bits(source, 39), mixed_bits(source, 39))
    finds = Finds(40, 40)
    for turn in range(400):
        x, y = source.randrange(39), source.randrange(39)
        facts = (("cell", x, y, cloth.colour(x, y)),)
        facts += tuple((way, x, y, cloth.stitched(way, x, y)) for way in ("col", "row"))
        fact = source.choice(facts)
        if fact not in dict(finds.kept()).values():
            finds.note(fact)
    return finds


def spoilt_by_signs(text, places):
    """Texts with one sign another one, one sign less and one sign more."""
    for place in places:
        yield text[:place] + text[place + 1:]
        for sign in SIGNS:
            yield text[:place] + sign + text[place + 1:]
            yield text[:place] + sign + text[place:]
    for sign in SIGNS:
        yield text + sign


def spoilt_by_words(text):
    """Texts with one word another one, one less, one twice, or two exchanged."""
    rows = [row.split(" ") for row in text.split("\n")]
    for number, words in enumerate(rows):
        changed = [words[:k] + words[k + 1:] for k in range(len(words))]
        changed += [words[:k] + [word] + words[k + 1:] for k in range(len(words)) for word in WORDS]
        changed += [words[:k] + words[k:k + 1] + words[k:] for k in range(len(words))]
        changed += [words[:k] + [words[j]] + words[k + 1:] for j in range(len(words)) for k in range(len(words))]
        for other in changed:
            yield "\n".join(" ".join(row) for row in rows[:number] + [other] + rows[number + 1:])


def spoilt_by_rows(text):
    """Texts with one row less, one twice, an empty one more, or two exchanged."""
    rows = text.split("\n")
    for k in range(len(rows)):
        yield "\n".join(rows[:k] + rows[k + 1:])
        yield "\n".join(rows[:k] + rows[k:k + 1] + rows[k:])
        yield "\n".join(rows[:k] + [""] + rows[k:])
        for j in range(k):
            yield "\n".join(rows[:j] + [rows[k]] + rows[j + 1:k] + [rows[j]] + rows[k + 1:])
    yield text + "\n"
    yield "\n" + text


class Spoilt(unittest.TestCase):
    """Holds each reading to it that a text is refused with BadText alone, or is what would be written."""

    def check_spoilt(self, read, write, texts):
        outcomes = set()
        for text in texts:
            try:
                told = read(text)
            except BadText as error:
                self.assertIs(type(error), BadText)
                outcomes.add(False)
            else:
                self.assertEqual(write(told), text)
                outcomes.add(True)
        return outcomes

    def check_all(self, read, write, text):
        texts = itertools.chain(spoilt_by_signs(text, range(len(text))), spoilt_by_words(text), spoilt_by_rows(text))
        self.assertEqual(self.check_spoilt(read, write, texts), {True, False})

    def test_cloths(self):
        for text in ("0 - -", "1 0 1", "0 0110 -", "1 - 01", "0 101 0010"):
            self.check_all(read_cloth, cloth_text, text)

    def test_long_cloths(self):
        text = cloth_text(Cloth(1, [0, 1, 1] * 13, [1, 0, 0] * 13))
        self.check_all(read_cloth, cloth_text, text)

    def test_chests(self):
        for chest in list(sample_chests())[1:3]:
            self.check_all(read_chest, chest_text, chest_text(chest))

    def test_finds(self):
        for finds in list(sample_finds())[:5]:
            self.check_all(read_finds, finds_text, finds_text(finds))

    def test_large_ones_at_some_places(self):
        source = random.Random(250)
        for read, write, told in ((read_chest, chest_text, list(sample_chests())[-1]),
                                  (read_finds, finds_text, large_finds())):
            text = write(told)
            places = source.sample(range(len(text)), 2)
            self.check_spoilt(read, write, itertools.islice(spoilt_by_signs(text, places), 0, None, 9))


class Cloths(unittest.TestCase):
    def test_written_out(self):
        pairs = (
            (Cloth(0, [], []), "0 - -"), (Cloth(1, [], []), "1 - -"), (Cloth(1, [0, 1, 1], []), "1 011 -"),
            (Cloth(0, [], [1, 0]), "0 - 10"), (Cloth(0, [1], [0, 0]), "0 1 00"),
            (Cloth(1, [1] * 39, [0] * 39), "1 " + "1" * 39 + " " + "0" * 39),
        )
        for cloth, text in pairs:
            self.assertEqual(cloth_text(cloth), text)
            self.assertEqual(told_of(read_cloth(text)), told_of(cloth))

    def test_what_is_written_is_read_back(self):
        for parts in all_parts():
            text = cloth_text(Cloth(*parts))
            read = read_cloth(text)
            self.assertEqual((told_of(read), type(read)), (parts, Cloth))
            self.assertEqual({type(number) for number in [read.shade()] + read.cols() + read.rows()}, {int})
            self.assertEqual(cloth_text(read), text)

    def test_texts_of_no_cloth(self):
        texts = (
            "", " ", "0", "0 ", "0 -", "0 - ", "0 - - ", " 0 - -", "0  - -", "0 - -\n", "\n0 - -", "0\n- -", "2 - -",
            "00 - -", "- - -", "-1 - -", "0 2 -", "0 -1 -", "0 -- -", "0 - 1-", "0 0_1 -", "0 +1 -", "0 1 1 1",
            "a 0 - -",
            "0 " + "0" * 40 + " -", "1 - " + "1" * 40, "0 " + "1" * 9990 + " " + "1" * 9990, "0 0", "x", "True - -",
        )
        for text in texts:
            refused(self, "BadText", read_cloth, text)


class Chests(unittest.TestCase):
    def test_written_out(self):
        self.assertEqual(chest_text(Chest()), "")
        chest = chest_of(("b", Cloth(1, [0, 1], [1])), ("aa", Cloth(0, [], [])))
        self.assertEqual(chest_text(chest), "b 1 01 1\naa 0 - -")
        chest.turn("b", "row", 0)
        chest.drop("aa")
        self.assertEqual(chest_text(chest), "b 1 01 0")

    def test_what_is_written_is_read_back(self):
        for chest in sample_chests():
            text = chest_text(chest)
            read = read_chest(text)
            self.assertEqual((held_in(read), type(read)), (held_in(chest), Chest))
            self.assertEqual(chest_text(read), text)
            self.assertEqual((chest_text(chest), chest.undoable()), (text, len(chest.names())))

    def test_nothing_can_be_undone_or_redone(self):
        chest = list(sample_chests())[2]
        chest.undo()
        for text in ("", chest_text(chest)):
            read = read_chest(text)
            self.assertEqual((read.undoable(), read.redoable()), (0, 0))
            refused(self, "NothingLeft", read.undo)
            refused(self, "NothingLeft", read.redo)
            read.lay("q", Cloth(0, [], []))
            read.undo()
            self.assertEqual((chest_text(read), read.undoable(), read.redoable()), (text, 0, 1))

    def test_the_order_of_coming(self):
        text = "c 0 - -\na 1 - -\nb 0 0 -"
        read = read_chest(text)
        self.assertEqual(read.names(), ["c", "a", "b"])
        read.drop("c")
        read.undo()
        self.assertEqual(chest_text(read), text)

    def test_texts_of_no_chest(self):
        texts = (
            " ", "\n", "\n\n", "a", "a ", "a 0", "a 0 -", "a 0 - -\n", "\na 0 - -", "a 0 - -\n\nb 0 - -", " 0 - -",
            "0 - -", "a  0 - -", "a 0 - - ", "A 0 - -", "a1 0 - -", "abcdefghijklm 0 - -", "a 0 - -\na 0 - -",
            "a 0 - -\na 1 0 -", "a 0 - - b 0 - -", "a 0 - -\nb 2 - -", "a 0 " + "0" * 40 + " -", "a\n0 - -",
            "b 0 - -\na 0 - -\nb 0 1 1",
        )
        for text in texts:
            refused(self, "BadText", read_chest, text)


class FindsTexts(unittest.TestCase):
    def test_written_out(self):
        finds = Finds(4, 3)
        self.assertEqual(finds_text(finds), "finds 4 3 0")
        for fact in (("cell", 3, 2, 1), ("col", 0, 2, True), ("row", 1, 3, False)):
            finds.note(fact)
        self.assertEqual(finds_text(finds), "finds 4 3 3\n0 cell 3 2 1\n1 col 0 2 sewn\n2 row 1 3 bare")
        finds.withdraw(2)
        finds.withdraw(0)
        self.assertEqual(finds_text(finds), "finds 4 3 3\n1 col 0 2 sewn")

    def test_what_is_written_is_read_back(self):
        for finds in sample_finds():
            text = finds_text(finds)
            read = read_finds(text)
            self.assertEqual((type(read), read.wide(), read.tall()), (Finds, finds.wide(), finds.tall()))
            self.assertEqual(read.kept(), finds.kept())
            self.assertEqual({type(fact[3]) for number, fact in read.kept() if fact[0] == "cell"} - {int}, set())
            self.assertEqual({type(fact[3]) for number, fact in read.kept() if fact[0] != "cell"} - {bool}, set())
            self.assertEqual((read.count(), read.loose()), (finds.count(), finds.loose()))
            self.assertEqual(told_of(read.cloth(0)), told_of(finds.cloth(0)))
            self.assertEqual((finds_text(read), finds_text(finds)), (text, text))

    def test_what_is_read_goes_on_with_the_same_numbers(self):
        for finds in list(sample_finds())[2:5]:
            read = read_finds(finds_text(finds))
            fact = ("row", 0, 0, True)
            self.assertEqual(read.note(fact), finds.note(fact))
            self.assertEqual(read.kept(), finds.kept())
            for number, fact in finds.kept():
                read.withdraw(number)
            self.assertEqual(read.kept(), [])

    def test_any_next_above_all_numbers(self):
        for following in (6, 7, 10, 99999, 999999):
            text = f"finds 2 2 {following}\n2 cell 1 1 0\n5 col 0 1 bare"
            read = read_finds(text)
            self.assertEqual(read.kept(), [(2, ("cell", 1, 1, 0)), (5, ("col", 0, 1, False))])
            self.assertEqual(finds_text(read), text)
            self.assertEqual(read.note(("row", 0, 0, True)), following)
        for following in (0, 1, 2, 3, 4, 5):
            refused(self, "BadText", read_finds, f"finds 2 2 {following}\n2 cell 1 1 0\n5 col 0 1 bare")
        self.assertEqual(read_finds("finds 1 1 0").note(("cell", 0, 0, 1)), 0)
        self.assertEqual(read_finds("finds 1 1 999998").note(("cell", 0, 0, 1)), 999998)

    def test_sizes(self):
        self.assertEqual(read_finds("finds 40 40 0").wide(), 40)
        for sizes in ("0 1", "1 0", "41 1", "1 41", "999999 1", "-1 1", "1 -", "01 1", "1 01", "1", "", "1 1 1 1"):
            refused(self, "BadText", read_finds, f"finds {sizes} 9")

    def test_numbers(self):
        for wrong in BAD_NUMBERS:
            refused(self, "BadText", read_finds, f"finds 9 9 {wrong}")
            refused(self, "BadText", read_finds, f"finds {wrong} 9 9")
            refused(self, "BadText", read_finds, f"finds 9 {wrong} 9")
            refused(self, "BadText", read_finds, f"finds 9 9 999999\n{wrong} cell 1 1 1")
            refused(self, "BadText", read_finds, f"finds 9 9 999999\n8 cell {wrong} 1 1")
            refused(self, "BadText", read_finds, f"finds 9 9 999999\n8 cell 1 {wrong} 1")
            refused(self, "BadText", read_finds, f"finds 9 9 999999\n8 cell 1 1 {wrong}")
            refused(self, "BadText", read_finds, f"finds 9 9 999999\n8 col {wrong} 1 sewn")
            refused(self, "BadText", read_finds, f"finds 9 9 999999\n8 row 1 {wrong} bare")

    def test_rows_out_of_order(self):
        good = "finds 3 3 9\n0 cell 1 1 0\n4 cell 1 2 0\n5 row 0 2 sewn"
        self.assertEqual(finds_text(read_finds(good)), good)
        refused(self, "BadText", read_finds, "finds 3 3 9\n4 cell 1 2 0\n0 cell 1 1 0")
        refused(self, "BadText", read_finds, "finds 3 3 9\n4 cell 1 2 0\n4 cell 1 1 0")
        refused(self, "BadText", read_finds, "0 cell 1 1 0\nfinds 3 3 9")

    def test_rows_that_would_be_refused(self):
        rows = (
            "0 cell 3 0 1", "0 cell 0 2 1", "0 cell 0 0 2", "0 col 2 0 sewn", "0 col 0 2 sewn", "0 row 1 0 bare",
            "0 row 0 3 bare", "0 cell 0 0 1\n1 cell 0 0 1", "0 cell 0 0 1\n1 cell 0 0 0",
            "0 col 0 0 sewn\n1 col 0 1 sewn", "0 cell 0 0 0\n1 cell 1 0 0\n2 col 0 0 sewn",
            "0 row 0 0 bare\n5 row 0 0 bare",
        )
        for text in rows:
            refused(self, "BadText", read_finds, "finds 3 2 9\n" + text)

    def test_texts_of_no_finds(self):
        texts = (
            "", "\n", "finds", "finds 1 1", "finds 1 1 0\n", "finds 1 1 0 ", " finds 1 1 0", "finds  1 1 0",
            "Finds 1 1 0", "find 1 1 0", "finds 1 1 0\n\n", "finds 2 2 9\n\n0 cell 0 0 0",
            "finds 2 2 9\n0 cell 0 0 0\n",
            "finds 2 2 9\n0 cell 0 0", "finds 2 2 9\n0 cell 0 0 0 0", "finds 2 2 9\n0 Cell 0 0 0",
            "finds 2 2 9\n0 x 0 0 0",
            "finds 2 2 9\n0 col 0 0 1", "finds 2 2 9\n0 col 0 0 True", "finds 2 2 9\n0 cell 0 0 sewn",
            "finds 2 2 9\n0 col 0 0 Sewn", "finds 2 2 9\n0 row 0 0", "finds 2 2 9\ncell 0 0 0",
            "finds 2 2 9 0 cell 0 0 0",
            "finds 2 2 9\n 0 cell 0 0 0", "finds 2 2 9\n0  cell 0 0 0", "finds 2 2 9\n0 cell 0 0 0 ",
        )
        for text in texts:
            refused(self, "BadText", read_finds, text)


if __name__ == "__main__":
    unittest.main()

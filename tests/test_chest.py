"""Point 24 and the interface's sashiko/chest.py."""

import random
import unittest

from sashiko.chest import Chest
from sashiko.cloth import Cloth
from sashiko.errors import SewError
from sashiko.sew import cut, parted, put, sewn_together, turned
from samples import NO_BITS, OTHER_WAYS, SIXTY_FIGURES, beyond, held_in, mixed_bits, refused, told_of

BAD_NAMES = (
    "", "a" * 13, "a" * 60, "A", "aB", "a1", "1", "a b", " a", "a ", "-", "a-b", "a_b", "\n", "a\n", "`", "{", "~",
)


def chest_with(**cloths):
    chest = Chest()
    for name, cloth in cloths.items():
        chest.lay(name, cloth)
    return chest


def all_of(chest):
    """All that a chest tells, with all that undoing and redoing lead to."""
    behind, ahead = chest.twin(), chest.twin()
    told = [held_in(chest), chest.undoable(), chest.redoable()]
    for go, other, count in ((behind.undo, behind, chest.undoable()), (ahead.redo, ahead, chest.redoable())):
        for turn in range(count):
            go()
            told.append(held_in(other))
    return told


class PlainChest:
    """A chest as point 24 says it: a list of standing deeds, all done again each time it is asked."""

    def __init__(self):
        self.deeds, self.undone = [], []

    def do(self, deed, *given):
        self.deeds.append((deed, given))
        self.undone = []

    def undo(self):
        self.undone.append(self.deeds.pop())

    def redo(self):
        self.deeds.append(self.undone.pop())

    def held(self):
        names, cloths = [], {}
        for deed, given in self.deeds:
            getattr(self, "do_" + deed)(names, cloths, *given)
        return [(name, told_of(cloths[name])) for name in names]

    def do_lay(self, names, cloths, name, cloth):
        names.append(name)
        cloths[name] = cloth

    def do_drop(self, names, cloths, name):
        names.remove(name)

    def do_turn(self, names, cloths, name, way, k):
        cloths[name] = turned(cloths[name], way, k)

    def do_put(self, names, cloths, name, way, k, bit):
        cloths[name] = put(cloths[name], way, k, bit)

    def do_cut(self, names, cloths, name, way, k):
        cloths[name] = cut(cloths[name], way, k)

    def do_sew(self, names, cloths, name, one, other, way):
        self.do_lay(names, cloths, name, sewn_together(cloths[one], cloths[other], way))

    def do_part(self, names, cloths, name, way, k, other):
        cloths[name], second = parted(cloths[name], way, k)
        self.do_lay(names, cloths, other, second)


def mixed_deed(source, names):
    """A deed that may be refused, with what is handed in to it."""
    name, other, third = (source.choice(names) for turn in range(3))
    way, k = source.choice(("col", "row")), source.randrange(3)
    cloth = Cloth(source.randrange(2), mixed_bits(source, k), mixed_bits(source, source.randrange(3)))
    deeds = (
        ("lay", name, cloth), ("drop", name), ("turn", name, way, k), ("put", name, way, k, source.randrange(2)),
        ("cut", name, way, k), ("sew", name, other, third, way), ("part", name, way, k, other),
    )
    # Those that are refused most often come most often.
    return source.choices(deeds, (4, 2, 1, 2, 1, 8, 4))[0]


def one_of_each():
    """A chest and one deed of each kind that it can do."""
    chest = chest_with(a=Cloth(0, [1, 0], [1]), b=Cloth(1, [0], [0, 1]))
    deeds = (
        ("lay", "c", Cloth(1, [], [])), ("drop", "a"), ("turn", "a", "col", 1), ("put", "b", "row", 2, 1),
        ("cut", "a", "row", 0), ("sew", "c", "a", "a", "row"), ("part", "a", "col", 0, "c"),
    )
    return chest, deeds


class Keeping(unittest.TestCase):
    def test_a_new_chest_is_empty(self):
        chest = Chest()
        self.assertEqual((chest.names(), chest.undoable(), chest.redoable()), ([], 0, 0))
        refused(self, "NoCloth", chest.cloth, "a")

    def test_laying_and_dropping(self):
        chest = chest_with(b=Cloth(1, [0], []), a=Cloth(0, [], [1, 1]))
        self.assertEqual(held_in(chest), [("b", (1, [0], [])), ("a", (0, [], [1, 1]))])
        self.assertIsNone(chest.drop("b"))
        self.assertEqual(chest.names(), ["a"])
        refused(self, "NoCloth", chest.cloth, "b")
        self.assertIsNone(chest.lay("b", Cloth(0, [], [])))
        self.assertEqual(held_in(chest), [("a", (0, [], [1, 1])), ("b", (0, [], []))])

    def test_one_cloth_under_two_names(self):
        cloth = Cloth(1, [0, 1], [])
        chest = chest_with(a=cloth, b=cloth)
        chest.turn("a", "col", 0)
        self.assertEqual(held_in(chest), [("a", (1, [1, 1], [])), ("b", (1, [0, 1], []))])
        self.assertEqual(told_of(cloth), (1, [0, 1], []))

    def test_turning_putting_in_and_cutting_out_keep_the_place(self):
        chest = chest_with(a=Cloth(0, [1, 0], [1]), b=Cloth(1, [], []))
        self.assertIsNone(chest.turn("a", "col", 1))
        self.assertEqual(told_of(chest.cloth("a")), (0, [1, 1], [1]))
        self.assertIsNone(chest.put("a", "row", 0, 0))
        self.assertEqual(told_of(chest.cloth("a")), (0, [1, 1], [0, 1]))
        self.assertIsNone(chest.cut("a", "col", 0))
        self.assertEqual(held_in(chest), [("a", (0, [1], [0, 1])), ("b", (1, [], []))])

    def test_sewing_leaves_both(self):
        chest = chest_with(a=Cloth(0, [1], [1]), b=Cloth(1, [], [1]), c=Cloth(0, [], []))
        self.assertIsNone(chest.sew("d", "a", "b", "col"))
        self.assertEqual(chest.names(), ["a", "b", "c", "d"])
        self.assertEqual(told_of(chest.cloth("d")), told_of(sewn_together(chest.cloth("a"), chest.cloth("b"), "col")))
        chest.sew("e", "c", "c", "row")
        self.assertEqual(told_of(chest.cloth("e")), (0, [], [0]))
        self.assertEqual(told_of(chest.cloth("a")), (0, [1], [1]))

    def test_parting(self):
        whole = Cloth(0, [1, 0, 1], [1, 0])
        for way, k in (("col", 0), ("col", 2), ("row", 0), ("row", 1)):
            chest = chest_with(a=Cloth(1, [], []), b=whole, c=Cloth(1, [], []))
            self.assertIsNone(chest.part("b", way, k, "d"))
            first, second = parted(whole, way, k)
            self.assertEqual(chest.names(), ["a", "b", "c", "d"])
            self.assertEqual((told_of(chest.cloth("b")), told_of(chest.cloth("d"))), (told_of(first), told_of(second)))

    def test_the_names_told_are_a_list_of_their_own(self):
        chest = chest_with(a=Cloth(1, [], []), b=Cloth(0, [], []))
        chest.names().clear()
        chest.names().append("z")
        chest.names().reverse()
        self.assertEqual(chest.names(), ["a", "b"])

    def test_lists_of_a_laid_cloth_are_changed_afterwards(self):
        cols = [0, 1]
        chest = chest_with(a=Cloth(1, cols, []))
        cols.clear()
        chest.cloth("a").cols().append(1)
        self.assertEqual(told_of(chest.cloth("a")), (1, [0, 1], []))


class Names(unittest.TestCase):
    def test_good_names(self):
        letters = "abcdefghijklmnopqrstuvwxyz"
        for length in range(1, 13):
            chest = Chest()
            for start in range(26):
                chest.lay((letters[start:] + letters)[:length], Cloth(0, [], []))
            self.assertEqual(len(chest.names()), 26)

    def test_bad_names(self):
        for name in BAD_NAMES:
            chest = chest_with(a=Cloth(0, [0], []))
            refused(self, "BadName", chest.lay, name, Cloth(0, [], []))
            refused(self, "BadName", chest.sew, name, "a", "a", "col")
            refused(self, "BadName", chest.part, "a", "col", 0, name)
            refused(self, "NoCloth", chest.cloth, name)
            refused(self, "NoCloth", chest.drop, name)
            self.assertEqual((held_in(chest), chest.undoable()), ([("a", (0, [0], []))], 1))

    def test_another_sign_at_any_place(self):
        signs = [chr(code) for code in range(32, 127) if not "a" <= chr(code) <= "z"] + ["\n"]
        for length in (1, 2, 12):
            for place in range(length):
                for sign in signs:
                    name = "m" * place + sign + "m" * (length - place - 1)
                    refused(self, "BadName", Chest().lay, name, Cloth(0, [], []))


class Refusals(unittest.TestCase):
    def setUp(self):
        self.chest = chest_with(a=Cloth(0, [1, 0], [1]), b=Cloth(1, [0] * 39, [0] * 39), c=Cloth(1, [], [1, 0]))
        self.chest.drop("c")
        self.chest.undo()
        self.ahead = all_of(self.chest)

    def tearDown(self):
        # What is refused leaves all as it was, also what can be redone.
        self.assertEqual(all_of(self.chest), self.ahead)
        self.assertEqual(self.chest.redoable(), 1)

    def test_laying(self):
        refused(self, "Taken", self.chest.lay, "a", Cloth(0, [], []))
        refused(self, "Taken", self.chest.lay, "c", Cloth(0, [], []))
        refused(self, "BadName", self.chest.lay, "A", Cloth(0, [], []))

    def test_dropping(self):
        for name in ("d", "aa", "") + BAD_NAMES:
            refused(self, "NoCloth", self.chest.drop, name)
            refused(self, "NoCloth", self.chest.cloth, name)

    def test_turning_and_cutting(self):
        for deed in (self.chest.turn, self.chest.cut):
            refused(self, "NoCloth", deed, "d", "col", 0)
            refused(self, "NoCloth", deed, "d", "up", -1)
            for way, lines in (("col", 2), ("row", 1)):
                for k in beyond(lines):
                    refused(self, "NoLine", deed, "a", way, k)
            for way in OTHER_WAYS:
                refused(self, "NoLine", deed, "a", way, 0)
            refused(self, "NoLine", deed, "c", "col", 0)

    def test_putting_in(self):
        refused(self, "NoCloth", self.chest.put, "d", "up", -1, 2)
        refused(self, "NoCloth", self.chest.put, "d", "col", 0, 0)
        for way, lines in (("col", 3), ("row", 2)):
            for k in beyond(lines):
                refused(self, "NoLine", self.chest.put, "a", way, k, 0)
                refused(self, "NoLine", self.chest.put, "a", way, k, 2)
        for way in OTHER_WAYS:
            refused(self, "NoLine", self.chest.put, "b", way, 0, 2)
        for wrong in NO_BITS:
            refused(self, "BadBit", self.chest.put, "a", "col", 0, wrong)
            refused(self, "BadBit", self.chest.put, "b", "row", 39, wrong)
        for k in (0, 20, 39):
            refused(self, "BadSize", self.chest.put, "b", "col", k, 1)
            refused(self, "BadSize", self.chest.put, "b", "row", k, 0)
        refused(self, "NoLine", self.chest.put, "b", "row", 40, 0)

    def test_sewing(self):
        sew = self.chest.sew
        refused(self, "BadName", sew, "D", "z", "z", "up")
        refused(self, "BadName", sew, "", "a", "a", "row")
        refused(self, "Taken", sew, "a", "z", "z", "up")
        refused(self, "Taken", sew, "c", "a", "a", "row")
        refused(self, "NoCloth", sew, "d", "z", "a", "up")
        refused(self, "NoCloth", sew, "d", "a", "z", "up")
        refused(self, "NoCloth", sew, "d", "d", "d", "row")
        for way in OTHER_WAYS:
            refused(self, "NoLine", sew, "d", "a", "b", way)
        refused(self, "BadSize", sew, "d", "a", "c", "col")
        refused(self, "BadSize", sew, "d", "b", "b", "col")
        # The lines across come to the seam at the odd step 3 and do not go on from step 0.
        error = refused(self, "Unfit", sew, "d", "a", "a", "col")
        self.assertEqual(error.at, 0)

    def test_parting(self):
        part = self.chest.part
        refused(self, "NoCloth", part, "z", "up", -1, "A")
        refused(self, "NoCloth", part, "z", "col", 0, "a")
        refused(self, "BadName", part, "a", "up", -1, "A")
        refused(self, "BadName", part, "a", "col", 0, "")
        refused(self, "Taken", part, "a", "up", -1, "a")
        refused(self, "Taken", part, "a", "col", 0, "a")
        refused(self, "Taken", part, "a", "col", 9, "b")
        for way, lines in (("col", 2), ("row", 1)):
            for k in beyond(lines):
                refused(self, "NoLine", part, "a", way, k, "d")
        for way in OTHER_WAYS:
            refused(self, "NoLine", part, "a", way, 0, "d")
        refused(self, "NoLine", part, "c", "col", 0, "d")


class Undoing(unittest.TestCase):
    def test_every_kind_of_deed(self):
        deeds = one_of_each()[1]
        for deed, *given in deeds:
            chest = one_of_each()[0]
            ahead = held_in(chest)
            getattr(chest, deed)(*given)
            behind = held_in(chest)
            self.assertNotEqual(ahead, behind)
            for turn in range(2):
                self.assertEqual((chest.undoable(), chest.redoable()), (3, 0))
                self.assertIsNone(chest.undo())
                self.assertEqual((held_in(chest), chest.undoable(), chest.redoable()), (ahead, 2, 1))
                self.assertIsNone(chest.redo())
                self.assertEqual(held_in(chest), behind)

    def test_nothing_left(self):
        chest = Chest()
        refused(self, "NothingLeft", chest.undo)
        refused(self, "NothingLeft", chest.redo)
        chest.lay("a", Cloth(0, [], []))
        refused(self, "NothingLeft", chest.redo)
        chest.undo()
        refused(self, "NothingLeft", chest.undo)
        self.assertEqual((chest.names(), chest.redoable()), ([], 1))
        chest.redo()
        refused(self, "NothingLeft", chest.redo)
        self.assertEqual((chest.names(), chest.undoable()), (["a"], 1))

    def test_another_deed_ends_redoing(self):
        for deed, *given in one_of_each()[1]:
            chest = one_of_each()[0]
            chest.lay("x", Cloth(1, [], []))
            chest.lay("y", Cloth(1, [], []))
            chest.undo()
            chest.undo()
            self.assertEqual(chest.redoable(), 2)
            getattr(chest, deed)(*given)
            self.assertEqual((chest.undoable(), chest.redoable()), (3, 0))
            refused(self, "NothingLeft", chest.redo)

    def test_places_behind_undoing_a_drop(self):
        chest = chest_with(a=Cloth(0, [], []), b=Cloth(0, [], []), c=Cloth(0, [], []))
        chest.drop("a")
        chest.lay("a", Cloth(1, [], []))
        self.assertEqual(chest.names(), ["b", "c", "a"])
        chest.undo()
        chest.undo()
        self.assertEqual(chest.names(), ["a", "b", "c"])
        self.assertEqual(told_of(chest.cloth("a")), (0, [], []))
        chest.redo()
        chest.redo()
        self.assertEqual(chest.names(), ["b", "c", "a"])
        self.assertEqual(told_of(chest.cloth("a")), (1, [], []))

    def test_a_name_is_free_again_behind_undoing(self):
        chest = chest_with(a=Cloth(0, [], []))
        chest.undo()
        chest.lay("a", Cloth(1, [0], []))
        self.assertEqual(held_in(chest), [("a", (1, [0], []))])

    def test_mixed_deeds_against_a_plain_chest(self):
        source = random.Random(24)
        for names in (["a", "b", "c"], ["abcdefghijkl", "m", "nn", "ooo", "p", "q"]):
            chest, plain = Chest(), PlainChest()
            for turn in range(1000):
                choice = source.randrange(8)
                if choice == 0 and plain.deeds:
                    chest.undo()
                    plain.undo()
                elif choice == 1 and plain.undone:
                    chest.redo()
                    plain.redo()
                else:
                    deed, *given = mixed_deed(source, names)
                    try:
                        getattr(chest, deed)(*given)
                    except SewError:
                        pass
                    else:
                        plain.do(deed, *given)
                self.assertEqual((chest.undoable(), chest.redoable()), (len(plain.deeds), len(plain.undone)))
                self.assertEqual(held_in(chest), plain.held())


class Twins(unittest.TestCase):
    def test_the_same(self):
        chest = one_of_each()[0]
        chest.turn("a", "col", 0)
        chest.cut("b", "row", 1)
        chest.undo()
        self.assertEqual(all_of(chest.twin()), all_of(chest))
        self.assertEqual((chest.twin().undoable(), chest.twin().redoable()), (3, 1))

    def test_both_go_on_apart(self):
        for deed, *given in one_of_each()[1]:
            chest = one_of_each()[0]
            chest.turn("a", "col", 0)
            chest.undo()
            other = chest.twin()
            ahead = all_of(chest)
            getattr(other, deed)(*given)
            self.assertEqual(all_of(chest), ahead)
            behind = all_of(other)
            chest.undo()
            chest.lay("zz", Cloth(1, [], []))
            chest.undo()
            self.assertEqual(all_of(other), behind)

    def test_undoing_and_redoing_apart(self):
        chest = one_of_each()[0]
        other = chest.twin()
        other.undo()
        other.undo()
        self.assertEqual((chest.names(), chest.undoable(), chest.redoable()), (["a", "b"], 2, 0))
        third = other.twin()
        other.redo()
        self.assertEqual((third.names(), other.names(), third.redoable()), ([], ["a"], 2))


class Bounds(unittest.TestCase):
    def test_sixty_cloths_and_four_hundred_deeds(self):
        source = random.Random(60)
        chest = Chest()
        names = [first + second for first in "abcdefgh" for second in "stuvwxyz"][:60]
        for name in names:
            chest.lay(name, Cloth(0, mixed_bits(source, 39), mixed_bits(source, 39)))
        laid = held_in(chest)
        for turn in range(340):
            chest.turn(source.choice(names), source.choice(("col", "row")), source.randrange(39))
        behind = held_in(chest)
        self.assertEqual((chest.names(), chest.undoable()), (names, 400))
        for turn in range(340):
            chest.undo()
        self.assertEqual(held_in(chest), laid)
        for turn in range(60):
            chest.undo()
        self.assertEqual((chest.names(), chest.redoable()), ([], 400))
        for turn in range(400):
            chest.redo()
        self.assertEqual(held_in(chest), behind)

    def test_far_numbers(self):
        chest = chest_with(a=Cloth(0, [1], [1]))
        for far in (SIXTY_FIGURES, -SIXTY_FIGURES):
            refused(self, "NoLine", chest.turn, "a", "col", far)
            refused(self, "NoLine", chest.part, "a", "col", far, "b")
            refused(self, "BadBit", chest.put, "a", "col", 0, far)


if __name__ == "__main__":
    unittest.main()

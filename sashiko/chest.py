"""Chests: cloths kept by names, with deeds that can be undone and redone."""

from sashiko.errors import BadName, NoCloth, NothingLeft, Taken
from sashiko.sew import cut, parted, put, sewn_together, turned

LONGEST_NAME = 12


def is_name(name):
    """Whether a text is one to twelve letters from a to z."""
    return 0 < len(name) <= LONGEST_NAME and all(["a" <= sign <= "z" for sign in name])


class Chest:
    """Cloths by names, and what they were ahead of each deed."""

    def __init__(self):
        # Cloths by names in the order of coming. A deed puts another dict in its place and never
        # changes one, so that the same dicts may stand in the lists below and in twins.
        self.cloths = {}
        self.ahead_of_deeds = []
        self.behind_undone = []

    def names(self):
        """The names in the order of coming, a list."""
        return list(self.cloths)

    def cloth(self, name):
        """The cloth of a name; NoCloth."""
        if name not in self.cloths:
            raise NoCloth("there is no cloth of that name")
        return self.cloths[name]

    def need_free(self, name):
        """Refuses a name that no new cloth can have; BadName, Taken."""
        if not is_name(name):
            raise BadName("a name is one to twelve letters from a to z")
        if name in self.cloths:
            raise Taken("there is a cloth of that name already")

    def become(self, cloths):
        """Does a deed, by the cloths that are there behind it."""
        self.ahead_of_deeds.append(self.cloths)
        self.cloths = cloths
        self.behind_undone = []

    def become_with(self, name, cloth):
        """Does a deed behind which a name has that cloth."""
        cloths = dict(self.cloths)
        cloths[name] = cloth
        self.become(cloths)

    def lay(self, name, cloth):
        """Lays a cloth in under a name; BadName, Taken."""
        self.need_free(name)
        self.become_with(name, cloth)

    def drop(self, name):
        """Takes a cloth out; NoCloth."""
        # Asked for its refusal alone.
        self.cloth(name)
        cloths = dict(self.cloths)
        cloths.pop(name)
        self.become(cloths)

    def turn(self, name, way, k):
        """Turns a cloth at a line; NoCloth, NoLine."""
        self.become_with(name, turned(self.cloth(name), way, k))

    def put(self, name, way, k, bit):
        """Puts a line in; NoCloth, NoLine, BadBit, BadSize."""
        self.become_with(name, put(self.cloth(name), way, k, bit))

    def cut(self, name, way, k):
        """Cuts a line out; NoCloth, NoLine."""
        self.become_with(name, cut(self.cloth(name), way, k))

    def sew(self, name, one, other, way):
        """Lays in a cloth sewn of two, which stay; BadName, Taken, NoCloth, NoLine, BadSize, Unfit."""
        self.need_free(name)
        self.become_with(name, sewn_together(self.cloth(one), self.cloth(other), way))

    def part(self, name, way, k, other):
        """Parts a cloth: the first part stays, the second one is new; NoCloth, BadName, Taken, NoLine."""
        whole = self.cloth(name)
        self.need_free(other)
        parts = parted(whole, way, k)
        cloths = dict(self.cloths)
        cloths[name] = parts[0]
        cloths[other] = parts[1]
        self.become(cloths)

    def undo(self):
        """Goes back to what was ahead of the last deed that is not undone; NothingLeft."""
        if len(self.ahead_of_deeds) == 0:
            raise NothingLeft("there is nothing left to undo")
        self.behind_undone.append(self.cloths)
        self.cloths = self.ahead_of_deeds.pop()

    def redo(self):
        """Does the deed undone last once more; NothingLeft."""
        if len(self.behind_undone) == 0:
            raise NothingLeft("there is nothing left to redo")
        self.ahead_of_deeds.append(self.cloths)
        self.cloths = self.behind_undone.pop()

    def undoable(self):
        """How many times in a row one could undo."""
        return len(self.ahead_of_deeds)

    def redoable(self):
        """How many times in a row one could redo."""
        return len(self.behind_undone)

    def forget(self):
        """Keeps the cloths, but nothing that could be undone or redone."""
        self.ahead_of_deeds = []
        self.behind_undone = []

    def twin(self):
        """Another chest with the same cloths, which can undo and redo the same."""
        other = Chest()
        other.cloths = self.cloths
        other.ahead_of_deeds = list(self.ahead_of_deeds)
        other.behind_undone = list(self.behind_undone)
        return other

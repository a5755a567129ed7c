"""Finds: what a few seen cells and steps settle of a cloth that is not known.

Each strip stands for an unknown bit, and a fact tells the sum of two of them by two. So strips that
facts tie together make a group in which every strip's weight towards the group's lead is known, and of
the groups each one but one may still be chosen freely.
"""

from sashiko.checks import is_below, is_bit, is_number, is_side, need_cell
from sashiko.cloth import Cloth
from sashiko.errors import BadBit, BadNumber, BadSize, Clash, Known, NoFact, NoLine, NoStep


def shows(cloth, fact):
    """Whether a cloth shows a fact about what it has."""
    if fact[0] == "cell":
        return cloth.colour(fact[1], fact[2]) == fact[3]
    return cloth.stitched(fact[0], fact[1], fact[2]) == fact[3]


def cell_strips(x, y):
    """The two strips whose sum of weights tells a cell's colour, a pair."""
    return (("x", x), ("y", y))


def line_strips(way, k):
    """The two strips whose sum of weights tells a line's bit, a pair."""
    letter = "x" if way == "col" else "y"
    return ((letter, k), (letter, k + 1))


def fact_strips(fact):
    """The two strips that a fact ties, a pair."""
    if fact[0] == "cell":
        return cell_strips(fact[1], fact[2])
    return line_strips(fact[0], fact[1])


def fact_weight(fact):
    """The weight of a fact, 0 or 1."""
    if fact[0] == "cell":
        return (fact[3] + fact[1] * fact[2]) % 2
    # The bit with which the step is so: a stitch is where step and bit are odd together.
    return (fact[2] + 1) % 2 if fact[3] else fact[2] % 2


def lone_groups(wide, tall):
    """For each strip its group's lead and its weight towards it, each strip being its own lead; a dict."""
    groups = {}
    for x in range(wide):
        groups[("x", x)] = (("x", x), 0)
    for y in range(tall):
        groups[("y", y)] = (("y", y), 0)
    return groups


def weight_between(groups, strips):
    """The weight between two strips, None where they are of two groups."""
    one = groups[strips[0]]
    other = groups[strips[1]]
    return (one[1] + other[1]) % 2 if one[0] == other[0] else None


def tie(groups, strips, weight):
    """Makes one group of the groups of two strips, where they are two, with that weight between the strips."""
    one = groups[strips[0]]
    other = groups[strips[1]]
    if one[0] == other[0]:
        return
    change = (one[1] + other[1] + weight) % 2
    for strip in list(groups):
        place = groups[strip]
        if place[0] == other[0]:
            groups[strip] = (one[0], (place[1] + change) % 2)


def groups_of(wide, tall, facts):
    """The groups that a list of facts ties together."""
    groups = lone_groups(wide, tall)
    for fact in facts:
        tie(groups, fact_strips(fact), fact_weight(fact))
    return groups


def ties_by_strip(facts):
    """For each strip that a fact ties the list of pairs of the other strip and the fact's number; a dict."""
    found = {}
    for number, fact in facts.items():
        strips = fact_strips(fact)
        found.setdefault(strips[0], []).append((strips[1], number))
        found.setdefault(strips[1], []).append((strips[0], number))
    return found


def reasons(facts, strips):
    """The numbers of facts that lead from one strip to another one of its group, a list."""
    ties = ties_by_strip(facts)
    # For each strip met the next one towards the goal, with the number of the fact between.
    onward = {strips[1]: None}
    met = [strips[1]]
    place = 0
    while strips[0] not in onward:
        here = met[place]
        for strip, number in ties[here]:
            if strip not in onward:
                onward[strip] = (here, number)
                met.append(strip)
        place += 1
    numbers = []
    link = onward[strips[0]]
    while link is not None:
        numbers.append(link[1])
        link = onward[link[0]]
    return numbers


def places_of(wide, tall):
    """The strips that tell a cloth's row of numbers, place by place: shade, lines up, lines across; a list."""
    found = [cell_strips(0, 0)]
    found.extend([line_strips("col", k) for k in range(wide - 1)])
    found.extend([line_strips("row", k) for k in range(tall - 1)])
    return found


class Finds:
    """Facts about a cloth of which the width and the height are known."""

    def __init__(self, wide, tall):
        if not (is_side(wide) and is_side(tall)):
            raise BadSize("a cloth is from 1 to 40 cells wide and tall")
        self.columns_count = wide
        self.rows_count = tall
        # By their numbers, which rise as the facts come.
        self.facts = {}
        self.next_number = 0
        self.groups = lone_groups(wide, tall)

    def wide(self):
        """How many columns of cells the cloth has."""
        return self.columns_count

    def tall(self):
        """How many rows of cells the cloth has."""
        return self.rows_count

    def need_line(self, way, k):
        """Refuses a line that the cloth does not have; NoLine."""
        if way not in ("col", "row"):
            raise NoLine("a way is col or row")
        if not is_below(k, (self.wide() if way == "col" else self.tall()) - 1):
            raise NoLine("there is no line of that number")

    def need_fact(self, fact):
        """Refuses a fact about what the cloth does not have; NoCell, BadBit, or NoLine, NoStep."""
        if fact[0] == "cell":
            need_cell(self, fact[1], fact[2])
            if not is_bit(fact[3]):
                raise BadBit("a colour is 0 or 1")
            return
        self.need_line(fact[0], fact[1])
        if not is_below(fact[2], self.tall() if fact[0] == "col" else self.wide()):
            raise NoStep("the line has no step of that number")

    def note(self, fact):
        """Keeps a fact and tells its number; NoCell, BadBit, or NoLine, NoStep; Known, Clash."""
        self.need_fact(fact)
        if fact in list(self.facts.values()):
            raise Known("the same fact is kept")
        strips = fact_strips(fact)
        weight = weight_between(self.groups, strips)
        if weight is not None and weight != fact_weight(fact):
            raise Clash(reasons(self.facts, strips))
        tie(self.groups, strips, fact_weight(fact))
        number = self.next_number
        self.facts[number] = fact
        self.next_number = number + 1
        return number

    def withdraw(self, number):
        """Keeps a fact no longer; NoFact."""
        if not is_number(number) or number not in self.facts:
            raise NoFact("no fact of that number is kept")
        self.facts.pop(number)
        self.groups = groups_of(self.wide(), self.tall(), list(self.facts.values()))

    def kept(self):
        """The kept facts with their numbers, a rising list of pairs."""
        return list(self.facts.items())

    def following(self):
        """The number of the next fact."""
        return self.next_number

    def go_on_from(self, number):
        """Has the next fact numbered so; the number is not below the next one so far."""
        self.next_number = number

    def why(self, strips):
        """Reasons from one strip to another, a list, or None where there are none."""
        if weight_between(self.groups, strips) is None:
            return None
        return reasons(self.facts, strips)

    def colour(self, x, y):
        """The settled colour of a cell, or None; NoCell."""
        need_cell(self, x, y)
        weight = weight_between(self.groups, cell_strips(x, y))
        return None if weight is None else (weight + x * y) % 2

    def why_colour(self, x, y):
        """Reasons for the colour of a cell, or None; NoCell."""
        need_cell(self, x, y)
        return self.why(cell_strips(x, y))

    def bit(self, way, k):
        """The settled bit of a line, or None; NoLine."""
        self.need_line(way, k)
        return weight_between(self.groups, line_strips(way, k))

    def why_bit(self, way, k):
        """Reasons for the bit of a line, or None; NoLine."""
        self.need_line(way, k)
        return self.why(line_strips(way, k))

    def loose(self):
        """The least count of looks."""
        return len(self.looks())

    def looks(self):
        """Cells whose colours settle all, a list of as few as can be."""
        groups = dict(self.groups)
        found = []
        # These cells alone tie all strips together, so that no others need be asked.
        cells = [(0, y) for y in range(self.tall())] + [(x, 0) for x in range(1, self.wide())]
        for cell in cells:
            strips = cell_strips(cell[0], cell[1])
            if weight_between(groups, strips) is None:
                found.append(cell)
                tie(groups, strips, 0)
        return found

    def count(self):
        """How many cloths show all kept facts."""
        cloths = 1
        for look in self.looks():
            # A look's colour is free, so that either one is that of half of the cloths.
            cloths = cloths * 2
        return cloths

    def cloth(self, number):
        """The cloth of that number among those that show all kept facts; BadNumber."""
        share = self.count()
        if not is_below(number, share):
            raise BadNumber("no cloth has that number")
        groups = dict(self.groups)
        bits = []
        for strips in places_of(self.wide(), self.tall()):
            bit = weight_between(groups, strips)
            if bit is None:
                # Of the cloths left, the first half has 0 here, the second half 1.
                share = share // 2
                bit = number // share % 2
                tie(groups, strips, bit)
            bits.append(bit)
        return Cloth(bits[0], bits[1:self.wide()], bits[self.wide():])

    def fits(self, cloth):
        """Whether a cloth has that width and height and shows all kept facts."""
        if cloth.wide() != self.wide() or cloth.tall() != self.tall():
            return False
        return all([shows(cloth, fact) for fact in self.facts.values()])

    def twin(self):
        """Other finds with the same facts, numbers and next number."""
        other = Finds(self.wide(), self.tall())
        other.facts = dict(self.facts)
        other.next_number = self.next_number
        other.groups = dict(self.groups)
        return other

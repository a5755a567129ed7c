"""Texts: cloths, chests and finds written down and read back."""

from sashiko.chest import Chest
from sashiko.cloth import Cloth
from sashiko.errors import BadText, SewError
from sashiko.finds import Finds

MOST_FIGURES = 6


def bits_text(bits):
    """The bits of the lines of one way, as figures side by side."""
    if len(bits) == 0:
        return "-"
    return "".join([str(bit) for bit in bits])


def cloth_text(cloth):
    """The text of a cloth."""
    shade = cloth.shade()
    cols = bits_text(cloth.cols())
    rows = bits_text(cloth.rows())
    return f"{shade} {cols} {rows}"


def chest_text(chest):
    """The text of a chest."""
    return "\n".join([name + " " + cloth_text(chest.cloth(name)) for name in chest.names()])


def fact_text(number, fact):
    """The row of a kept fact."""
    kind = fact[0]
    first = fact[1]
    second = fact[2]
    last = fact[3]
    if kind != "cell":
        last = "sewn" if fact[3] else "bare"
    return f"{number} {kind} {first} {second} {last}"


def finds_text(finds):
    """The text of finds."""
    wide = finds.wide()
    tall = finds.tall()
    following = finds.following()
    rows = [f"finds {wide} {tall} {following}"]
    rows.extend([fact_text(number, fact) for number, fact in finds.kept()])
    return "\n".join(rows)


def has_signs(word, signs):
    """Whether a word has one sign or more, all of them among those of a text."""
    return len(word) > 0 and all([sign in signs for sign in word])


def read_number(word):
    """The number that a word tells; BadText."""
    if not has_signs(word, "0123456789") or len(word) > MOST_FIGURES:
        raise BadText("a number has one to six figures")
    if word[0] == "0" and word != "0":
        raise BadText("a number has no noughts ahead")
    return int(word)


def read_bits(word):
    """The bits of the lines of one way that a word tells, a list; BadText."""
    if word == "-":
        return []
    if not has_signs(word, "01"):
        raise BadText("bits are the figures 0 and 1")
    return [int(sign) for sign in word]


def read_cloth(text):
    """The cloth of a text; BadText."""
    words = text.split(" ")
    if len(words) != 3 or words[0] not in ("0", "1"):
        raise BadText("a cloth is its shade, its lines up and its lines across")
    shade = int(words[0])
    cols = read_bits(words[1])
    rows = read_bits(words[2])
    try:
        return Cloth(shade, cols, rows)
    except SewError as refusal:
        raise BadText("there is no such cloth") from refusal


def read_chest(text):
    """The chest of a text, in which nothing can be undone; BadText."""
    chest = Chest()
    # The empty text has no row at all, where split would tell an empty one.
    rows = [] if text == "" else text.split("\n")
    for row in rows:
        parts = row.partition(" ")
        cloth = read_cloth(parts[2])
        try:
            chest.lay(parts[0], cloth)
        except SewError as refusal:
            raise BadText("a cloth can't have that name") from refusal
    chest.forget()
    return chest


def read_fact(words):
    """The fact that four words tell; BadText."""
    if len(words) != 4:
        raise BadText("a fact has four words behind its number")
    first = read_number(words[1])
    second = read_number(words[2])
    if words[0] == "cell":
        return ("cell", first, second, read_number(words[3]))
    if words[0] not in ("col", "row") or words[3] not in ("sewn", "bare"):
        raise BadText("a fact is of a cell, or of a step that is sewn or bare")
    return (words[0], first, second, words[3] == "sewn")


def read_head(row):
    """The finds without facts and the number of the next fact that a first row tells, a pair; BadText."""
    words = row.split(" ")
    if len(words) != 4 or words[0] != "finds":
        raise BadText("finds begin with their width, their height and the number of the next fact")
    wide = read_number(words[1])
    tall = read_number(words[2])
    following = read_number(words[3])
    try:
        return (Finds(wide, tall), following)
    except SewError as refusal:
        raise BadText("there are no finds of that size") from refusal


def need_not_below(number, least):
    """Refuses a number that has been given already; BadText."""
    if number < least:
        raise BadText("numbers rise, and the next one is above them all")


def read_finds(text):
    """The finds of a text; BadText."""
    rows = text.split("\n")
    head = read_head(rows[0])
    finds = head[0]
    for row in rows[1:]:
        words = row.split(" ")
        number = read_number(words[0])
        fact = read_fact(words[1:])
        need_not_below(number, finds.following())
        finds.go_on_from(number)
        try:
            finds.note(fact)
        except SewError as refusal:
            raise BadText("a fact is refused") from refusal
    need_not_below(head[1], finds.following())
    finds.go_on_from(head[1])
    return finds

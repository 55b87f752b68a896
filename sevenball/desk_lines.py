"""Lines of a desk: of which items they are, and what the items write."""

from sevenball.checks import is_letter, is_within
from sevenball.errors import BadLine, BadText
from sevenball.machines import Machine
from sevenball.points import Point
from sevenball.text_items import integer_in
from sevenball.words import word_in

MOST_SIGNS = 12
MOST_IN_WORD = 60
MOST_IN_SHORT = 20
MOST_IN_STRING = 8
MOST_DIGITS = 3
SMALL_LETTERS = "abcdefghijklmnopqrstuvwxyz"
DIGITS = "0123456789"
# What stands behind the first item of each line that changes what is kept.
DEEDS = {
    "set": ("new", "machine"),
    "cone": ("new", "word"),
    "ending": ("new", "word"),
    "lengths": ("new", "modulus", "rest"),
    "letters": ("new", "letters"),
    "lot": ("new", "lot words"),
    "point": ("new", "place"),
    "copy": ("new", "kept"),
    "both": ("set", "set"),
    "either": ("set", "set"),
    "less": ("set", "set"),
    "others": ("set",),
    "turn": ("kept", "word"),
    "send": ("point", "set", "balls"),
    "fetch": ("point", "set", "balls", "ball"),
    "carry": ("point", "set", "set"),
    "bring": ("point", "set", "set"),
    "forget": ("kept",),
}
# And behind that of each line that asks, takes back or does again.
ASKS = {
    "first": ("set",),
    "many": ("set", "many"),
    "words": ("set", "listed"),
    "takes": ("set", "word"),
    "holds": ("set", "point"),
    "same": ("set", "set"),
    "lost": ("set",),
    "lead": ("set", "word"),
    "copies": ("set",),
    "missing": ("set", "words"),
    "beyond": ("set", "letters away"),
    "just": ("many", "sets"),
    "counts": ("sets",),
    "word": ("point",),
    "height": ("point",),
    "bare": ("point",),
    "text": ("point",),
    "story": ("point",),
    "undo": (),
    "redo": (),
}
NAMES = ("new", "set", "point", "kept")
# The bounds of integers; some end one below the item before them.
BOUNDS = {"modulus": (1, 12), "balls": (1, 6), "many": (0, 60), "listed": (0, 2), "letters away": (0, 100)}
BELOW = ("rest", "ball")
# How many items there are at least and at most, and what each of them is.
ROWS = {"lot words": (0, 8, "short word"), "words": (0, 20, "word"), "sets": (1, 8, "set")}


def parted(line):
    """The kind of a line, and a list of what its other items write; BadLine for what is no line."""
    if not isinstance(line, str):
        raise BadLine(0)
    items = line.split(" ")
    kind = items[0]
    if kind not in DEEDS and kind not in ASKS:
        raise BadLine(0)
    values = []
    at = 1
    for form in forms_of(kind):
        if form in ROWS:
            values.append(row_in(form, items, at))
            at = len(items)
        elif form in ("machine", "place"):
            values.append(read_in(form, items, at))
            at = len(items)
        else:
            values.append(value_at(form, items, at, values))
            at += 1
    if at < len(items):
        raise BadLine(at)
    return kind, values


def forms_of(kind):
    """What stands behind the first item of a line."""
    return DEEDS[kind] if kind in DEEDS else ASKS[kind]


def row_in(form, items, first):
    """What all items from an index on write."""
    least, most, each = ROWS[form]
    values = []
    for at in range(first, len(items)):
        if at - first == most:
            raise BadLine(at)
        values.append(value_at(each, items, at, []))
    if len(values) < least:
        raise BadLine(len(items))
    return values


def read_in(form, items, first):
    """The machine or the point that all items from an index on write."""
    text = " ".join(items[first:])
    try:
        return Machine.read(text) if form == "machine" else Point.read(text)
    except BadText as error:
        raise BadLine(first + error.item)


def value_at(form, items, at, before):
    """What the item at an index writes; before are the values that stand ahead of it."""
    value = None
    if at < len(items):
        value = value_in(form, items[at], before)
    if value is None:
        raise BadLine(at)
    return value


def value_in(form, item, before):
    """What an item writes, None if it is not of the form."""
    if form in NAMES:
        return item if is_name(item) else None
    if form == "letters":
        return item if are_letters(item) else None
    if form in ("word", "short word"):
        word = word_in(item)
        most = MOST_IN_WORD if form == "word" else MOST_IN_SHORT
        return None if word is None or len(word) > most else word
    least, most = (0, before[-1] - 1) if form in BELOW else BOUNDS[form]
    number = integer_in(item, MOST_DIGITS)
    return number if is_within(number, least, most) else None


def is_name(item):
    """Whether an item is a name."""
    if not 1 <= len(item) <= MOST_SIGNS or item[0] not in SMALL_LETTERS:
        return False
    return all([sign in SMALL_LETTERS + DIGITS for sign in item])


def are_letters(item):
    """Whether an item is a string of a few letters."""
    return 1 <= len(item) <= MOST_IN_STRING and all([is_letter(sign) for sign in item])

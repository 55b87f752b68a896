"""The rows of the painted machine of a cut that comes of codes.

The colours are first those of the codes, in their order; then, once more for the codes of ball 0, those of
words that make room for guests; then two for the guests, those that do not begin with b and those that do.
"""

from sevenball.checks import LETTERS
from sevenball.code_rows import turns_of
from sevenball.letter_rows import tree_of
from sevenball.row_walks import walked
from sevenball.standings import led_to, one_way, shifted
from sevenball.strict_rows import strict_of

# So many standings are worked with, before those that can be taken for one are.
MOST_WALKED = 40000
# The index of the letter b.
GUEST_LETTER = 5


def cut_rows(rows, ahead):
    """The rows, and for each colour the letters of its turn and the ball; the rows that are passed are strict."""
    codes = [code for row in ahead for code in row]
    home = len(ahead[0])
    guests = (len(codes) + home + 1, len(codes) + home + 2)
    blocks = []
    for row in ahead:
        for index, code in enumerate(row):
            guest = guests[1] if code.startswith("b") else guests[0]
            blocks.append(behind_code(rows, row[:index + 1], len(blocks) + 1, guest))
    rooms = rooms_of(strict_of(put_under(rows, codes, blocks, guests), 0), guests)
    for index in range(home):
        blocks[index] = with_rooms(blocks[index], rooms, index + 1, len(codes) + index + 1)
    return met_alone(strict_of(put_under(rows, codes, blocks, guests), 0), turns_of(ahead))


def behind_code(rows, codes, colour, guest):
    """The rows by which words behind the last of the codes have its colour, or that of guests.

    A word of the set is a guest if an earlier code leads what stands behind this one.
    """
    met, nexts = walked(rows, tuple([led_to(rows, code) for code in codes]), MOST_WALKED)
    made = []
    for standings, row in zip(met, nexts):
        lits = [rows[at][0] for at in standings]
        mark = 0
        if lits[-1]:
            mark = guest if any(lits[:-1]) else colour
        made.append((mark, row))
    return strict_of(made, 0)


def rooms_of(rows, guests):
    """The rows, lit or not, by which words are taken that make room for guests, or are made free for them.

    They are A, once or more often, then B and a guest that does not begin with b, or b and one that does.
    """
    first = [(False, one_way("A", 1, 3))]
    out = list(one_way("A", 1, 3))
    out[LETTERS.find("B")] = 4
    out[GUEST_LETTER] = 2
    first.append((False, tuple(out)))
    first.append((False, one_way("b", rows[0][1][GUEST_LETTER] + 4, 3)))
    first.append((False, (3,) * len(LETTERS)))
    behind = [(mark in guests, nexts) for mark, nexts in shifted(rows, 4)]
    return strict_of([*first, *behind], False)


def with_rooms(block, rooms, colour, other):
    """The rows of a block, with another colour for those words of a colour that make room."""
    behind = shifted(rooms, len(block))
    stacked = [*block, *behind]
    met, nexts = walked(stacked, (0, len(block)), MOST_WALKED)
    made = []
    for (at, to), row in zip(met, nexts):
        mark = block[at][0]
        made.append((other if mark == colour and stacked[to][0] else mark, row))
    return strict_of(made, 0)


def put_under(rows, codes, blocks, guests):
    """The rows by which words go on behind a code in its block; those that begin with no code are guests."""
    tree, leaves = tree_of(codes)
    if 0 in leaves:
        return blocks[0]
    ends = {leaf: index for index, leaf in enumerate(leaves)}
    told = told_of(rows, tree)
    size = len(tree)
    bases = [size + 2 * len(rows)]
    for block in blocks:
        bases.append(bases[-1] + len(block))
    made = []
    for node, nexts in enumerate(tree):
        standing, late = told[node]
        row = []
        for letter, to in enumerate(nexts):
            if to in ends:
                row.append(bases[ends[to]])
            elif to is not None:
                row.append(to)
            else:
                other = letter == GUEST_LETTER if node == 0 else late
                row.append(rows[standing][1][letter] + size + (len(rows) if other else 0))
        made.append((guests[late] if rows[standing][0] else 0, tuple(row)))
    for late in (0, 1):
        off = shifted(rows, size + late * len(rows))
        made.extend([(guests[late] if lit else 0, nexts) for lit, nexts in off])
    for base, block in zip(bases, blocks):
        made.extend(shifted(block, base))
    return made


def told_of(rows, tree):
    """For each node of a tree its standing in the rows, and 1 if it begins with b, otherwise 0."""
    told = [(0, 0) for _ in tree]
    for at, nexts in enumerate(tree):
        standing, late = told[at]
        for letter, to in enumerate(nexts):
            if to is not None:
                told[to] = (rows[standing][1][letter], 1 if at == 0 and letter == GUEST_LETTER else late)
    return told


def met_alone(rows, turns):
    """Rows and turns with the colours alone that words have, numbered in the order in which they are met."""
    numbers = {0: 0}
    for mark, _ in rows:
        numbers.setdefault(mark, len(numbers))
    order = list(numbers)
    return tuple([(numbers[mark], nexts) for mark, nexts in rows]), [turns[mark - 1] for mark in order[1:]]

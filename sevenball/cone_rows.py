"""The rows of the painted machine of a cut of a cone.

The colours are those of the tops and of their twins, by turns: 1 for the first top, 2 for its twin, and so on.
"""

from sevenball.checks import LETTERS
from sevenball.letter_rows import tree_of, undone
from sevenball.row_walks import beginnings
from sevenball.standings import shifted

# The colours of what stays on the first ball, and of what comes there by a turn.
STAYS = 1
GOES = 2


def cone_rows(letters, ends):
    """The rows of the cut of the cone of some letters; ends are the letters of the tops and their twins, by turns.

    What begins with no end stays on the first ball, and so does what comes of it by s, again and again, where s undoes
    the last letter of the first top behind what stands ahead of it. So this begins with what stands ahead and the
    undoing, once or more often; behind them it is what stays, turned by the undoing of what stands ahead.
    """
    tree, leaves = tree_of(ends)
    colours = {leaf: index + 1 for index, leaf in enumerate(leaves)}
    in_cone = [size >= len(letters) for size in sizes_in(tree)]
    rows = rows_along(tree, [colours.get(at, STAYS if lit else 0) for at, lit in enumerate(in_cone)], len(ends))
    rest = rows_along(tree, [STAYS if lit and at not in colours else GOES for at, lit in enumerate(in_cone)], GOES)
    back = undone(ends[0][:-1])
    base = len(rows) + len(back)
    turned = list(beginnings(rest, back, len(rows), base))
    turned.extend(shifted(rest, base))
    # From the first twin it goes on as in the turned set, but the twin's last letter leads there again.
    mark, nexts = turned[0]
    row = list(nexts)
    row[LETTERS.find(ends[1][-1])] = leaves[1]
    rows[leaves[1]] = (mark, tuple(row))
    return tuple(rows + turned)


def sizes_in(tree):
    """For each node of a tree how many letters lead to it."""
    sizes = [0 for _ in tree]
    for at, nexts in enumerate(tree):
        for to in nexts:
            if to is not None:
                sizes[to] = sizes[at] + 1
    return sizes


def rows_along(tree, marks, most):
    """The rows that go along a tree, and keep for good the mark, at most so great, of the node where they leave it."""
    many = len(tree)
    rows = [
        (mark, tuple([many + mark if to is None else to for to in nexts])) for mark, nexts in zip(marks, tree)
    ]
    rows.extend([(mark, (many + mark,) * len(LETTERS)) for mark in range(most + 1)])
    return rows

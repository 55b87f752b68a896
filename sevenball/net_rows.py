"""Rows of nets: for each place the eight places to which letters lead, None where a letter leads to none.

An edge is told by a place, the index of a letter, and the place to which it leads; its undoing leads back.
"""

from sevenball.checks import LETTERS
from sevenball.letter_rows import undone
from sevenball.strict_rows import BARRED

GREAT_LETTERS = 4


def rings_of(words):
    """The number of places and the edges of rings from place 0 back to it, one for each row of letters."""
    edges = []
    many = 1
    for letters in words:
        at = 0
        for place, letter in enumerate(letters):
            to = 0 if place + 1 == len(letters) else many
            edges.append((at, LETTERS.find(letter), to))
            if to > 0:
                many += 1
            at = to
    return many, edges


def edges_of(net, first):
    """The edges of the great letters of a net, place 0 as it is, the others from a number on."""
    return [
        (at + first - 1 if at > 0 else 0, letter, to + first - 1 if to > 0 else 0)
        for at, row in enumerate(net) for letter, to in enumerate(row[:GREAT_LETTERS]) if to is not None
    ]


def folded(many, edges):
    """The net that comes of so many places and of edges, if places are taken as one to which one letter leads."""
    heads = list(range(many))
    rows = [[None for _ in LETTERS] for _ in range(many)]
    waiting = list(edges)
    while waiting:
        one, letter, other = waiting.pop()
        one = head_in(heads, one)
        other = head_in(heads, other)
        for at, by, to in ((one, letter, other), (other, BARRED[letter], one)):
            if rows[at][by] is None:
                rows[at][by] = to
            held = head_in(heads, rows[at][by])
            if held != to:
                # What leads on from the one that goes is told once more, of the one that stays.
                heads[to] = held
                waiting.extend([(held, more, end) for more, end in enumerate(rows[to]) if end is not None])
                waiting.append((one, letter, other))
                break
    start = head_in(heads, 0)
    # Of those that went nothing is left.
    alone = [
        [None if end is None or heads[place] != place else head_in(heads, end) for end in row]
        for place, row in enumerate(rows)
    ]
    return numbered(core_of(alone, start), start)


def head_in(heads, place):
    """The place that stands for one."""
    while heads[place] != place:
        place = heads[place]
    return place


def core_of(rows, start):
    """The rows without the places, but the start, from which fewer than two letters lead on."""
    left = [list(row) for row in rows]
    loose = [at for at, row in enumerate(rows) if at != start and leading_on(row) <= 1]
    while loose:
        at = loose.pop()
        for letter, to in enumerate(list(left[at])):
            if to is not None:
                left[at][letter] = None
                left[to][BARRED[letter]] = None
                if to != start and leading_on(left[to]) == 1:
                    loose.append(to)
    return left


def leading_on(row):
    """How many letters lead on from a place."""
    return len([to for to in row if to is not None])


def numbered(rows, start):
    """The rows of the places to which words lead from the start, in the order of the least of these words."""
    order = [start]
    numbers = {start: 0}
    at = 0
    while at < len(order):
        for to in rows[order[at]]:
            if to is not None and to not in numbers:
                numbers[to] = len(order)
                order.append(to)
        at += 1
    return tuple([tuple([None if end is None else numbers[end] for end in rows[place]]) for place in order])


def both_nets(one, other):
    """The net of the words that lead back to place 0 in two nets."""
    pairs = [(0, 0)]
    numbers = {(0, 0): 0}
    rows = []
    at = 0
    while at < len(pairs):
        place, also = pairs[at]
        row = []
        for pair in zip(one[place], other[also]):
            if pair[0] is None or pair[1] is None:
                row.append(None)
                continue
            if pair not in numbers:
                numbers[pair] = len(pairs)
                pairs.append(pair)
            row.append(numbers[pair])
        rows.append(row)
        at += 1
    return numbered(core_of(rows, 0), 0)


def led_along(net, letters):
    """The last place to which a beginning of letters leads, and how many letters it has."""
    place = 0
    for at, letter in enumerate(letters):
        to = net[place][LETTERS.find(letter)]
        if to is None:
            return place, at
        place = to
    return place, len(letters)


def least_to(net):
    """For each place the letters of the least word that leads to it."""
    least = {0: ""}
    for at, row in enumerate(net):
        for letter, to in enumerate(row):
            if to is not None and to not in least:
                least[to] = least[at] + LETTERS[letter]
    return [least[at] for at in range(len(net))]


def loops_of(net):
    """The edges of great letters on the way of no least word."""
    least = least_to(net)
    return [
        (at, letter, to) for at, row in enumerate(net) for letter, to in enumerate(row[:GREAT_LETTERS])
        if to is not None
        and least[to] != least[at] + LETTERS[letter]
        and least[at] != least[to] + LETTERS[BARRED[letter]]
    ]


def basis_of(net):
    """The letters of the words of a basis, one for each loop."""
    least = least_to(net)
    return [least[at] + LETTERS[letter] + undone(least[to]) for at, letter, to in loops_of(net)]


def is_within_net(one, other):
    """Whether all words that lead back to place 0 in one net do so in another one."""
    partners = {0: 0}
    for at, row in enumerate(one):
        for letter, to in enumerate(row):
            if to is None:
                continue
            partner = other[partners[at]][letter]
            if partner is None or partners.setdefault(to, partner) != partner:
                return False
    return True


def kept_net(net, letters):
    """The net of a finite index with the words of another one, in which letters lead to another place than 0."""
    place, size = led_along(net, letters)
    many = len(net) + len(letters) - size
    rows = [[None for _ in LETTERS] for _ in range(many)]
    for at, row in enumerate(net):
        for letter, to in enumerate(row):
            rows[at][letter] = to
    for at in range(size, len(letters)):
        to = len(net) + at - size
        letter = LETTERS.find(letters[at])
        rows[place][letter] = to
        rows[to][BARRED[letter]] = place
        place = to
    for letter in range(GREAT_LETTERS):
        begins = [at for at in range(many) if rows[at][letter] is None]
        ends = [at for at in range(many) if rows[at][BARRED[letter]] is None]
        for at, to in zip(begins, ends):
            rows[at][letter] = to
            rows[to][BARRED[letter]] = at
    return numbered([tuple(row) for row in rows], 0)

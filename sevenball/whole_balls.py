"""Whether a cut makes whole balls: whether to each word of a ball just one word goes."""

from sevenball.checks import LETTERS
from sevenball.row_walks import beginnings
from sevenball.standings import led_to
from sevenball.strict_rows import BARRED, NO_LETTER

# So many rows of standings are met at once, before pieces are looked at two by two.
MOST_TOGETHER = 20000


def makes_balls(painted, turns, count):
    """Whether by the turns of the colours each of so many balls is made, each word of it just once."""
    rows = painted.strict
    ahead = colours_ahead(rows)
    for ball in range(count):
        pieces = [(at + 1, turn.letters) for at, (turn, its) in enumerate(turns) if its == ball]
        if not is_whole(rows, ahead, pieces):
            return False
    return True


def colours_ahead(rows):
    """For each standing the colours to which strings lead from there, each as a power of two in one number."""
    before = [[] for _ in rows]
    for at, (_, nexts) in enumerate(rows):
        for to in nexts:
            before[to].append(at)
    ahead = [0 for _ in rows]
    waiting = [(at, 1 << colour) for at, (colour, _) in enumerate(rows)]
    while waiting:
        at, colours = waiting.pop()
        if ahead[at] | colours != ahead[at]:
            ahead[at] = ahead[at] | colours
            waiting.extend([(one, ahead[at]) for one in before[at]])
    return ahead


def is_whole(rows, ahead, pieces):
    """Whether each word comes of just one piece; a piece is a colour of strict rows, turned by some letters."""
    told = come_of(rows, ahead, pieces, (1,), MOST_TOGETHER)
    if told is not None:
        return told
    # Where too much is met at once, it is enough that no word comes of two pieces, and there are as many words.
    for at, one in enumerate(pieces):
        for other in pieces[:at]:
            if not come_of(rows, ahead, [one, other], (0, 1), None):
                return False
    return are_as_many(rows, pieces)


def come_of(rows, ahead, pieces, let, most):
    """Whether each word comes of so many of the pieces as is let; None if more than most rows of standings are met.

    It is read on in all pieces at once. A piece from which its colour is met no more is left where no word goes on.
    """
    stacked, start = turned_pieces(rows, pieces)
    wanted = [colour for colour, _ in pieces]
    gone = led_to(rows, "Aa")
    met = {(NO_LETTER, start): True}
    queue = [(start, NO_LETTER)]
    at = 0
    while at < len(queue):
        standings, last = queue[at]
        if [stacked[one][0] == colour for one, colour in zip(standings, wanted)].count(True) not in let:
            return False
        if most is not None and len(queue) > most:
            return None
        nexts = [stacked[one][1] for one in standings]
        for letter in range(len(LETTERS)):
            if letter == BARRED[last]:
                continue
            reached = [row[letter] for row in nexts]
            following = tuple([
                to if to >= len(rows) or ahead[to] >> colour & 1 else gone for to, colour in zip(reached, wanted)
            ])
            if (letter, following) not in met:
                met[(letter, following)] = True
                queue.append((following, letter))
        at += 1
    return True


def turned_pieces(rows, pieces):
    """The rows, and behind them those of the beginnings of each piece's letters, and where each piece begins."""
    stacked = list(rows)
    start = []
    for _, letters in pieces:
        start.append(len(stacked) if letters != "" else 0)
        stacked.extend(beginnings(rows, letters, len(stacked), 0))
    return stacked, tuple(start)


def are_as_many(rows, pieces):
    """Whether of each number of letters as many words come of the pieces, all together, as there are.

    Behind the turns, how many there are of each number of letters follows from those of as many numbers before as
    there are standings: so from some number on all are right, if all before are.
    """
    longest = max([len(letters) for _, letters in pieces], default=0)
    most = longest + len(rows) + 3
    left = [1]
    while len(left) <= most:
        left.append(8 if len(left) == 1 else 7 * left[-1])
    for colour, letters in pieces:
        left = [one - many for one, many in zip(left, counts_of(rows, colour, letters, most))]
    return not any([many != 0 for many in left])


def counts_of(rows, colour, letters, most):
    """How many words of 0 letters up to most come of a piece."""
    gone = led_to(rows, "Aa")
    stacked = list(rows)
    start = len(rows) if letters != "" else 0
    ahead = beginnings(rows, letters, len(rows), 0)
    ahead.append(rows[0])
    for at, (mark, nexts) in enumerate(ahead):
        row = list(nexts)
        if at == len(letters) - 1:
            row[LETTERS.find(letters[at])] = len(rows) + at + 1
        if at > 0:
            row[BARRED[LETTERS.find(letters[at - 1])]] = gone
        stacked.append((mark, row))
    counts = [1 if mark == colour else 0 for mark, _ in stacked]
    found = []
    for _ in range(most + 1):
        found.append(counts[start])
        counts = [sum([counts[to] for to in nexts]) for _, nexts in stacked]
    return found

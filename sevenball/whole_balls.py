"""Whether a cut makes whole balls: whether to each word of a ball just one word goes."""

from sevenball.checks import LETTERS
from sevenball.row_walks import beginnings
from sevenball.standings import led_to
from sevenball.strict_rows import BARRED, NO_LETTER


def makes_balls(painted, turns, count):
    """Whether by the turns of the colours each of so many balls is made, each word of it just once."""
    rows = painted.strict
    ahead = colours_ahead(rows)
    for ball in range(count):
        pieces = [(at + 1, turn.letters) for at, (turn, its) in enumerate(turns) if its == ball]
        if not is_whole(rows, ahead, pieces):
            return False
    return True


def colours_ahead(rows):
    """For each standing the colours to which strings lead from there, each as a power of two in one number."""
    before = [[] for _ in rows]
    for at, (_, nexts) in enumerate(rows):
        for to in nexts:
            before[to].append(at)
    ahead = [0 for _ in rows]
    waiting = [(at, 1 << colour) for at, (colour, _) in enumerate(rows)]
    while waiting:
        at, colours = waiting.pop()
        if ahead[at] | colours != ahead[at]:
            ahead[at] = ahead[at] | colours
            waiting.extend([(one, ahead[at]) for one in before[at]])
    return ahead


def is_whole(rows, ahead, pieces):
    """Whether each word comes of just one piece; a piece is a colour of strict rows, turned by some letters.

    It is read on in all pieces at once. A piece from which its colour is met no more is left where no word goes on.
    """
    stacked, start = turned_pieces(rows, pieces)
    wanted = [colour for colour, _ in pieces]
    gone = led_to(rows, "Aa")
    size = len(rows)
    met = {(NO_LETTER, start): True}
    queue = [(start, NO_LETTER)]
    at = 0
    while at < len(queue):
        standings, last = queue[at]
        if [stacked[one][0] == colour for one, colour in zip(standings, wanted)].count(True) != 1:
            return False
        nexts = [stacked[one][1] for one in standings]
        for letter in range(len(LETTERS)):
            if letter == BARRED[last]:
                continue
            reached = [row[letter] for row in nexts]
            following = tuple([
                to if to >= size or ahead[to] >> colour & 1 else gone for to, colour in zip(reached, wanted)
            ])
            if (letter, following) not in met:
                met[(letter, following)] = True
                queue.append((following, letter))
        at += 1
    return True


def turned_pieces(rows, pieces):
    """The rows, and behind them those of the beginnings of each piece's letters, and where each piece begins."""
    stacked = list(rows)
    start = []
    for _, letters in pieces:
        start.append(len(stacked) if letters != "" else 0)
        stacked.extend(beginnings(rows, letters, len(stacked), 0))
    return stacked, tuple(start)

"""Codes as strings of letters: what is put ahead of the words of balls to lead them into a set.

Where rows are passed, they are the strict ones of the set: by these a string that is no word leads
nowhere, so it need not be asked whether one word fits another one.
"""

from sevenball.letter_rows import joined, undone
from sevenball.standings import led_to
from sevenball.tails import lead_letters, least_letters, missed_behind, missed_letters, sure_behind

FIRST_LETTER = 0
# So many sets of standings are looked at to know what is missed.
MOST_LOOKED_AT = 2000


def ahead_of_all(rows):
    """Some words, such that each word behind A is led into the set by one of them ahead of this A.

    Each is the least one that leads what those before it miss, so each comes to another standing with its A. Where
    it would take long to know what they miss, it is a word for each such standing instead.
    """
    sure = sure_behind(rows)
    chosen = []
    done, missed = True, ""
    while missed is not None:
        chosen.append(lead_letters(rows, "A" + missed))
        held = tuple(sorted(set([int(led_to(rows, letters + "A")) for letters in chosen])))
        done, missed = missed_behind(rows, held, sure, FIRST_LETTER, MOST_LOOKED_AT)
    return chosen if done else ahead_to_each(rows)


def ahead_to_each(rows):
    """The least words to each standing that words lead to with an A behind them."""
    dead = led_to(rows, "Aa")
    # The standings come in the order of their least strings.
    first = {}
    for at, (_, nexts) in enumerate(rows):
        first.setdefault(nexts[FIRST_LETTER], at)
    return [least_letters(rows, at) for to, at in first.items() if to != dead]


def codes_for(rows, count):
    """Codes of the set to so many balls; every word is a tail of the set."""
    chosen = ahead_of_all(rows)
    # Of several words ahead one can be a beginning of another one: behind them the first B comes at another place.
    between = "A"
    if len(chosen) > 1:
        between = "A" * (max([len(letters) for letters in chosen]) + 1) + "B"
    size = (count - 1).bit_length()
    balls = [binary(ball, size) for ball in range(count)]
    # What does not begin with a fits the last letter A, all else the last letter B.
    return [[letters + between + ball + last for last in "AB" for letters in chosen] for ball in balls]


def binary(number, size):
    """A number written with so many letters, A or B."""
    letters = ""
    for _ in range(size):
        letters = "AB"[number & 1] + letters
        number = number >> 1
    return letters


def lead_all(rows, codes):
    """Whether each word is led into the set by one of the codes."""
    held = tuple(sorted(set([int(led_to(rows, code)) for code in codes])))
    return missed_letters(rows, held, sure_behind(rows)) is None


def first_code(rows, codes, letters):
    """The first of the codes that leads a word into the set, None if none does."""
    for code in codes:
        if rows[led_to(rows, code + letters)][0]:
            return code
    return None


def code_of(rows, ahead, letters):
    """The ball and the code by which a word comes of another one, None if it comes of none."""
    for ball, codes in enumerate(ahead):
        for code in codes:
            # No other code can be a beginning of the word.
            if letters.startswith(code):
                right = first_code(rows, codes, letters[len(code):]) == code
                return (ball, code) if right else None
    return None


def is_guest(rows, ahead, letters):
    """Whether a word of the set comes of none by the codes, and is taken in on ball 0."""
    return rows[led_to(rows, letters)][0] and code_of(rows, ahead, letters) is None


def room_of(letters):
    """The place on ball 0 that is made free for a guest."""
    return ("Ab" if letters.startswith("b") else "AB") + letters


def guest_of(rows, ahead, letters):
    """The guest for whom a word on ball 0 is moved by an A, or into whose place it is, None if there is none."""
    room = letters.lstrip("A")
    if len(room) == len(letters) or room[:1] not in ("B", "b"):
        return None
    guest = room[1:]
    if room.startswith("b") != guest.startswith("b") or not is_guest(rows, ahead, guest):
        return None
    return guest


def goes_to(rows, ahead, letters):
    """The ball and the letters to which a word of the set goes."""
    found = code_of(rows, ahead, letters)
    if found is None:
        return 0, room_of(letters)
    ball, code = found
    rest = letters[len(code):]
    if ball == 0 and guest_of(rows, ahead, rest) is not None:
        return ball, "A" + rest
    return ball, rest


def comes_from(rows, ahead, ball, letters):
    """The letters of the word of the set that goes to some letters on a ball."""
    if ball == 0:
        guest = guest_of(rows, ahead, letters)
        if guest is not None:
            if letters == room_of(guest):
                return guest
            letters = letters[1:]
    return first_code(rows, ahead[ball], letters) + letters


def turns_of(ahead):
    """The letters of the turns of codes, of those that make room, and of those of guests, each with its ball."""
    turns = [(undone(code), ball) for ball, codes in enumerate(ahead) for code in codes]
    rooms = [(joined("A", undone(code)), 0) for code in ahead[0]]
    return [*turns, *rooms, (room_of(""), 0), (room_of("b")[:2], 0)]

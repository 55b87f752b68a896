"""What the lines of a desk do and answer, told what they name."""

from sevenball.crossings import Carry, Crossing
from sevenball.lots import Lot
from sevenball.machines import Machine
from sevenball.made import cone, ending, everything, lengths, of_letters
from sevenball.tables import counts, just
from sevenball.tails import beyond, covering, lead, lost_tail, uncovered
from sevenball.texts import story

BETWEEN = " | "
NONE = "none"
ASKS_OF_POINTS = ("word", "height", "bare", "text", "story")


def kept_by(kind, values):
    """The set or the point that a deed keeps; the first value is the one that it changes, if there is one."""
    first = values[0]
    match kind:
        case "cone":
            return cone(values[1])
        case "ending":
            return ending(values[1])
        case "lengths":
            return lengths(values[1], [values[2]])
        case "letters":
            return of_letters(values[1])
        case "lot":
            return Lot(values[1]).machine()
        case "both":
            return first & values[1]
        case "either":
            return first | values[1]
        case "less":
            return first - values[1]
        case "others":
            return ~first
        case "turn":
            return first.turned(values[1])
        case "fetch":
            return Crossing(values[1], values[2]).back(values[3], first)
        case "carry":
            return Carry(values[1], values[2])(first)
        case "bring":
            return Carry(values[1], values[2]).back(first)
    # The others keep what stands in the line, or what is kept by another name.
    return values[1]


def sent(point, machine, count):
    """The ball and the point to which a point is led by a crossing."""
    return Crossing(machine, count).there(point)


def word_text(word):
    """The text of a word, or of None."""
    return NONE if word is None else str(word)


def words_text(words):
    """The texts of words."""
    return NONE if len(words) == 0 else " ".join([str(word) for word in words])


def answer_of(value):
    """What a deed answers that keeps a set or a point."""
    return word_text(value.first()) if isinstance(value, Machine) else str(value.word)


def answer_to(kind, values):
    """What a line answers that asks something."""
    if kind in ASKS_OF_POINTS:
        return answer_about(kind, values[0])
    first = values[0]
    match kind:
        case "first":
            return word_text(first.first())
        case "many":
            return str(first.counted(values[1]))
        case "words":
            many = values[1]
            return words_text(list(first.listed(many)))
        case "takes" | "holds":
            return "yes" if values[1] in first else "no"
        case "same":
            apart = first.apart(values[1])
            return "same" if apart is None else str(apart)
        case "lost":
            return word_text(lost_tail(first))
        case "lead":
            return word_text(lead(first, values[1]))
        case "copies":
            told = covering(first)
            return words_text(told.turns) if told else f"lost {told.word}"
        case "missing":
            return word_text(uncovered(first, values[1]))
        case "beyond":
            return str(beyond(first, values[1]))
        case "just":
            told = just(values[1], everything(), first)
            return "just" if told else f"uneven {told.word} {told.found}"
    return BETWEEN.join([f"{many} {word}" for many, word in counts(first)])


def answer_about(kind, point):
    """What a line answers that asks something of a point."""
    match kind:
        case "word":
            return str(point.word)
        case "height":
            return str(point.height)
        case "bare":
            return str(point.bare)
        case "text":
            return str(point)
    return BETWEEN.join(list(story(point)))

"""Whether papers about tables are right."""

from sevenball.checks import is_integer
from sevenball.tables import Alike, Just, Uneven, Unlike, compared, count_at, just
from sevenball.words import Word


def shows_just(machines, whole, times, value):
    """Whether any value is a right paper about how often each word is taken."""
    told = just(machines, whole, times)
    if isinstance(value, Just):
        return bool(told) and is_integer(value.times) and value.times == times
    if not isinstance(value, Uneven) or not isinstance(value.word, Word) or not is_integer(value.found):
        return False
    wanted = times if whole.takes(value.word) else 0
    return value.found != wanted and value.found == count_at(machines, value.word)


def shows_compared(machines, others, value):
    """Whether any value is a right paper about the counts by two lists of machines."""
    told = compared(machines, others)
    if isinstance(value, Alike):
        return bool(told)
    if not isinstance(value, Unlike) or not isinstance(value.word, Word):
        return False
    if not is_integer(value.found) or not is_integer(value.other) or value.found == value.other:
        return False
    return value.found == count_at(machines, value.word) and value.other == count_at(others, value.word)

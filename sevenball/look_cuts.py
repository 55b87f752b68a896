"""Whether papers about cuts are right."""

from sevenball.checks import is_within
from sevenball.cuts import MOST_CODED, MOST_CUT, is_sound, right_codes
from sevenball.errors import BadNumber
from sevenball.tails import check_machine
from sevenball.whole_balls import makes_balls


def shows_codes(machine, count, value):
    """Whether any value is right codes of the set to so many balls."""
    check_machine(machine)
    if not is_within(count, 1, MOST_CODED):
        raise BadNumber("count")
    ahead = right_codes(machine, value)
    return ahead is not None and len(ahead) == count


def shows_cut(machine, count, value):
    """Whether any value is a right cut of the set to so many balls."""
    check_machine(machine)
    if not is_within(count, 1, MOST_CUT):
        raise BadNumber("count")
    if not is_sound(value) or any([ball >= count for _, ball in value.turns]):
        return False
    return value.painted.coloured() == machine and makes_balls(value.painted, value.turns, count)

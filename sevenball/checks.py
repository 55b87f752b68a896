"""What values are: integers, integers within bounds, letters."""

from sevenball.errors import BadLetter

# The place of a letter is asked by `find`: Lots keep an attribute `index`, and operators call nothing of its name.
LETTERS = "ABCDabcd"


def is_integer(value):
    """Whether any value is an integer; True and False are none."""
    return isinstance(value, int) and not isinstance(value, bool)


def is_within(value, least, most):
    """Whether any value is an integer from least to most."""
    return is_integer(value) and least <= value <= most


def is_letter(value):
    """Whether any value is one of the eight letters."""
    return isinstance(value, str) and len(value) == 1 and value in LETTERS


def undoing(letter):
    """The letter that undoes one."""
    if not is_letter(letter):
        raise BadLetter(letter)
    return letter.swapcase()

"""Items of texts, and the integers that they write."""

from sevenball.errors import BadText


def items_of(text):
    """The items of a text, a list; BadText(0) for what is no string."""
    if not isinstance(text, str):
        raise BadText(0)
    return text.split(" ")


def integer_in(item, most):
    """The integer that an item writes as `str` does, with at most so many digits; otherwise None."""
    digits = item.removeprefix("-")
    if not digits.isascii() or not digits.isdigit() or len(digits) > most:
        return None
    if digits.startswith("0") and item != "0":
        return None
    return int(item)

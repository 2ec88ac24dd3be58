"""What the other files ask of values that may be anything."""

from loopstow.errors import BadName, Twice

LETTERS = "abcdefghijklmnopqrstuvwxyz"
DIGITS = "0123456789"
MOST_LETTERS = 6
MOST_PRICE = 9


def is_name(value):
    """Whether a value is a name: a string of 1 to 6 letters a to z."""
    return isinstance(value, str) and 1 <= len(value) <= MOST_LETTERS and value.strip(LETTERS) == ""


def is_number(value):
    """Whether a value is an integer."""
    return isinstance(value, int) and not isinstance(value, bool)


def is_count(value):
    """Whether a value is an integer from 0."""
    return is_number(value) and value >= 0


def is_price(value):
    """Whether a value is an integer from 0 to 9."""
    return is_count(value) and value <= MOST_PRICE


def is_digits(text):
    """Whether a string consists of decimal digits, at least one."""
    return text != "" and text.strip(DIGITS) == ""


def check_names(values):
    """Refuse the first value that is no name."""
    for value in values:
        if not is_name(value):
            raise BadName(value)


def check_unlike(names):
    """Refuse the first name that stands before."""
    seen = {}
    for name in names:
        if name in seen:
            raise Twice(name)
        seen[name] = True


def ascending(names):
    """The ascending tuple of some names, each of them once."""
    return tuple(sorted(set(names)))

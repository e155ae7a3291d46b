"""What a value is, and fractions in lowest terms."""

from math import gcd

from handlerims.errors import BadNumber

MOST_KIND = 26
MOST_NAME = 12
ALPHABET = "abcdefghijklmnopqrstuvwxyz"
DIGITS = "0123456789"


def is_integer(value):
    """Whether the value is an integer; True and False are none."""
    return isinstance(value, int) and not isinstance(value, bool)


def is_within(value, least, most):
    """Whether the value is an integer from least to most; None is no bound."""
    if not is_integer(value):
        return False
    return (least is None or value >= least) and (most is None or value <= most)


def is_letter(value):
    """Whether the value is a letter."""
    return is_within(value, -MOST_KIND, MOST_KIND) and value != 0


def is_name(value):
    """Whether the value is a string that can be a name."""
    if not isinstance(value, str) or not 1 <= len(value) <= MOST_NAME:
        return False
    return value[0] in ALPHABET and all([sign in ALPHABET + DIGITS for sign in value])


def is_listed(value):
    """Whether the value is a list or a tuple."""
    return isinstance(value, (list, tuple))


def are_integers(value):
    """Whether the value is a list or a tuple of integers."""
    return is_listed(value) and all([is_integer(part) for part in value])


def first_twice(values):
    """The first value that equals one ahead of it, None if there is none."""
    seen = set()
    for value in values:
        if value in seen:
            return value
        seen.add(value)
    return None


def common_divisor(one, other):
    """The greatest integer that divides both, 0 if both are 0."""
    if not is_integer(one):
        raise BadNumber("one")
    if not is_integer(other):
        raise BadNumber("other")
    return gcd(one, other)


def lowest(top, bottom):
    """The pair, in lowest terms, of the fraction top by bottom."""
    if not is_integer(top):
        raise BadNumber("top")
    if not is_integer(bottom) or bottom == 0:
        raise BadNumber("bottom")
    divisor = gcd(top, bottom)
    if bottom < 0:
        divisor = -divisor
    return (top // divisor, bottom // divisor)

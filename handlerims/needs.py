"""Checks of arguments that raise the error told for them."""

from handlerims.checks import MOST_KIND, is_integer, is_letter, is_within
from handlerims.errors import BadNumber, NoLetter


def need_integer(value, part):
    """Raise BadNumber unless the value is an integer."""
    if not is_integer(value):
        raise BadNumber(part)


def need_within(value, least, most, part):
    """Raise BadNumber unless the value is an integer within the bounds."""
    if not is_within(value, least, most):
        raise BadNumber(part)


def need_kind(value, part):
    """Raise BadNumber unless the value is a kind."""
    need_within(value, 1, MOST_KIND, part)


def need_letter(value):
    """Raise NoLetter unless the value is a letter."""
    if not is_letter(value):
        raise NoLetter(value)

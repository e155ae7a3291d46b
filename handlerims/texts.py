"""Letters and integers as items of texts."""

from handlerims.checks import ALPHABET, DIGITS
from handlerims.errors import BadText

MOST_DIGITS = 60


def letter_text(letter):
    """The item that tells the letter."""
    sign = ALPHABET[abs(letter) - 1]
    return sign if letter > 0 else sign + "'"


def letter_of(item):
    """The letter that the item tells, None if it tells none."""
    kind = ALPHABET.find(item[:1]) + 1
    if item == "" or kind == 0:
        return None
    if len(item) == 1:
        return kind
    return -kind if item[1:] == "'" else None


def integer_text(number):
    """The item that tells the integer, however many digits it has."""
    # Python refuses to write an integer of some thousand digits at once.
    parts = []
    left = abs(number)
    while left >= 10 ** 60:
        parts.append(str(left % 10 ** 60).zfill(60))
        left = left // 10 ** 60
    parts.append(str(left))
    return ("-" if number < 0 else "") + "".join(parts[::-1])


def integer_of(item):
    """The integer that the item tells, None if it tells none."""
    digits = item[1:] if item.startswith("-") else item
    if not 1 <= len(digits) <= MOST_DIGITS or not all([sign in DIGITS for sign in digits]):
        return None
    number = int(item)
    return number if str(number) == item else None


def items_of(text):
    """The items of a text, an empty one too: BadText for what is no string."""
    if not isinstance(text, str):
        raise BadText(0, 0)
    return text.split(" ")


def items_told(text):
    """The items of a text, none for a lone `-`, behind which no item can stand."""
    items = items_of(text)
    if items[0] != "-":
        return items
    if len(items) > 1:
        raise BadText(0, 1)
    return []

"""Letters as items of texts."""

from handlerims.checks import ALPHABET
from handlerims.errors import BadText


def letter_text(letter):
    """The item that tells the letter."""
    sign = ALPHABET[abs(letter) - 1]
    return sign if letter > 0 else sign + "'"


def letter_of(item):
    """The letter that the item tells, None if it tells none."""
    kind = ALPHABET.find(item[:1]) + 1
    if item == "" or kind == 0:
        return None
    if len(item) == 1:
        return kind
    return -kind if item[1:] == "'" else None


def items_of(text):
    """The items of a text, an empty one too: BadText for what is no string."""
    if not isinstance(text, str):
        raise BadText(0, 0)
    return text.split(" ")

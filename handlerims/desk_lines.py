"""The lines of a desk, read."""

from handlerims.checks import is_name
from handlerims.errors import BadText
from handlerims.texts import integer_of, items_of, letter_of
from handlerims.words import Word

DEEDS = ("word", "exchange", "then", "times", "rims", "weigh", "turn", "contrary", "shorten", "round", "put", "drop")
ASKS = ("names", "show", "root", "census", "handles", "parted", "spelled", "cheapest", "tube", "squares", "price",
        "value", "bar")

# What the items behind the first one stand for: the name of something new, the name of a word, of rims, of a
# weighing, of any of these three (a thing), or a value that the item tells itself.
PARTS = {
    "word": ("new", "text"),
    "exchange": ("new", "word", "word"),
    "then": ("new", "word", "word"),
    "times": ("new", "word", "integer"),
    "rims": ("new", "word"),
    "weigh": ("new", "letter"),
    "turn": ("word", "integer"),
    "contrary": ("word",),
    "shorten": ("word",),
    "round": ("word",),
    "put": ("word", "kind", "word"),
    "drop": ("thing",),
    "names": (),
    "show": ("thing",),
    "root": ("word",),
    "census": ("rims",),
    "handles": ("word",),
    "parted": ("word",),
    "spelled": ("word",),
    "cheapest": ("rims",),
    "tube": ("word", "word"),
    "squares": ("word",),
    "price": ("rims",),
    "value": ("weighing", "rims"),
    "bar": ("weighing", "rims"),
}
# The lines of which the last part stands once or more.
REPEATED = ("rims", "weigh")


def parts_of(first, many):
    """What the items of a line stand for behind its first one, if it has so many behind that."""
    parts = PARTS[first]
    if first in REPEATED:
        return parts + parts[-1:] * (many - len(parts))
    return parts


def value_told(part, item):
    """What an item tells that stands for such a part, None if it tells none."""
    if part == "integer":
        return integer_of(item)
    if part == "letter":
        return letter_of(item)
    if part == "kind":
        kind = letter_of(item)
        return kind if kind is not None and kind > 0 else None
    return item if is_name(item) else None


def word_told(items, first):
    """The Word that the items from the first one on tell: BadText with the place in the line."""
    try:
        return Word.read(" ".join(items[first:]))
    except BadText as error:
        raise BadText(0, first + error.item)


def values_told(items):
    """What the items of a line behind its first one tell, in their order."""
    parts = parts_of(items[0], len(items) - 1)
    values = []
    for at, item in enumerate(items[1:]):
        part = parts[at] if at < len(parts) else None
        if part == "text":
            return values + [word_told(items, at + 1)]
        value = None if part is None else value_told(part, item)
        if value is None:
            raise BadText(0, at + 1)
        values.append(value)
    if len(values) < len(parts):
        raise BadText(0, len(items))
    return values


def read_among(line, firsts):
    """The first item of a line, one of firsts, and the list of what the others stand for."""
    items = items_of(line)
    if items[0] not in firsts:
        raise BadText(0, 0)
    return (items[0], values_told(items))


def read_line(line):
    """The tuple of the first item of a line, and of what the others stand for."""
    first, values = read_among(line, DEEDS + ASKS)
    return tuple([first] + values)

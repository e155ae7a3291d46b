"""Whether papers about sewings are right."""

from handlerims.checks import is_listed, is_within
from handlerims.exchanged import Way, mates_exchanged, need_like_sewings
from handlerims.papers import is_called


def is_swap(letters, pair):
    """Whether the pair is two unlike places of these letters, with one letter."""
    if not is_listed(pair) or len(pair) != 2:
        return False
    place, other = pair
    if not is_within(place, 0, len(letters) - 1) or not is_within(other, 0, len(letters) - 1):
        return False
    return place != other and letters[place] == letters[other]


def shows_way(sewing, other, value):
    """Whether the value is a Way that leads from the sewing to the other one."""
    need_like_sewings(sewing, other)
    if not isinstance(value, Way) or not is_called(value, "Way") or not is_listed(value.pairs):
        return False
    mates = sewing.mates
    for pair in value.pairs:
        if not is_swap(sewing.rims.letters, pair):
            return False
        mates = mates_exchanged(mates, pair[0], pair[1])
    return tuple(mates) == other.mates

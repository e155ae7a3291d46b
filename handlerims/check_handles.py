"""Whether papers about handles and partings are right."""

from handlerims.checks import is_integer, is_within
from handlerims.handles import Handles, handles_of
from handlerims.letters import contrary_letters, turned_letters
from handlerims.papers import is_called
from handlerims.parted import NotParted, Parted, first_parting, ring_to_part
from handlerims.rims import Rims
from handlerims.sewings import Sewing, are_mates
from handlerims.words import Word


def shows_handles(word, value):
    """Whether the value is Handles of the word, with any mates of a sewing that has so few."""
    found = handles_of(word)
    if not isinstance(value, Handles) or not is_called(value, "Handles"):
        return False
    if not is_integer(value.number) or value.number != found.number:
        return False
    if not isinstance(value.ring, Word) or value.ring != found.ring:
        return False
    if not are_mates(found.ring.letters, value.mates):
        return False
    return found.ring.length == 0 or Sewing(Rims([found.ring]), value.mates).handles == found.number


def is_parting(ring, value):
    """Whether the parts of a Parted part the ring."""
    parts = (value.x, value.y, value.z)
    if not is_within(value.turn, 0, max(0, ring.length - 1)):
        return False
    if not all([isinstance(part, Word) for part in parts]):
        return False
    ahead = [letter for part in parts for letter in part.letters]
    behind = [letter for part in parts for letter in contrary_letters(part.letters)]
    return turned_letters(ring.letters, value.turn) == tuple(ahead + behind)


def shows_parted(word, value):
    """Whether the value is a Parted of the word, or the NotParted of one that is parted by none."""
    ring = ring_to_part(word)
    if isinstance(value, Parted) and is_called(value, "Parted"):
        return is_parting(ring, value)
    return isinstance(value, NotParted) and first_parting(ring) == value

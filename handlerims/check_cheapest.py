"""Whether papers about the cheapest sewings of rims are right."""

from handlerims.checks import is_integer
from handlerims.cheapest import Cheapest, InOne, cheapest, in_one
from handlerims.papers import is_called
from handlerims.sewings import Sewing, are_mates


def shows_cheapest(rims, value):
    """Whether the value is the Cheapest of the rims, with the mates of any sewing that costs so little."""
    found = cheapest(rims)
    if not isinstance(value, Cheapest) or not is_called(value, "Cheapest"):
        return False
    if not is_integer(value.cost) or not are_mates(rims.letters, value.mates):
        return False
    return value.cost == found.cost == Sewing(rims, value.mates).cost


def shows_in_one(rims, value):
    """Whether the value is the InOne of the rims, with the mates of any sewing that has so few handles."""
    found = in_one(rims)
    if not isinstance(value, InOne) or not is_called(value, "InOne"):
        return False
    if not is_integer(value.handles) or not are_mates(rims.letters, value.mates):
        return False
    return value.handles == found.handles == Sewing(rims, value.mates).handles

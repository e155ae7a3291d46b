"""Sewings: which place of rims is sewn to which, and what comes of it."""

from math import factorial

from handlerims.errors import BadSewing, Misfit, TooMany
from handlerims.letters import kinds_of
from handlerims.mating import all_mates, are_paired, joined
from handlerims.rims import need_rims

MOST_SEWINGS = 720


def need_sewing(value, part):
    """Raise BadSewing unless the value is a Sewing."""
    if not isinstance(value, Sewing):
        raise BadSewing(part)


def need_ring_sewing(value, part):
    """Raise what is told unless the value is a Sewing of one rim."""
    need_sewing(value, part)
    if len(value.rims.words) != 1:
        raise Misfit("rims")


def are_mates(letters, value):
    """Whether the value is a list with a mate for each place of these letters."""
    if not are_paired(value, len(letters)):
        return False
    return all([letters[mate] == -letters[place] for place, mate in enumerate(value)])


def corners_of(rims, mates):
    """The rounds in which each place leads to the next of its mate, the least place first."""
    corners = []
    seen = set()
    for start in range(rims.many):
        corner = []
        place = start
        while place not in seen:
            seen.add(place)
            corner.append(place)
            place = rims.nexts[mates[place]]
        if corner:
            corners.append(tuple(corner))
    return tuple(corners)


def pieces_of(rims, mates):
    """The numbers of the rims of each piece, the pieces ascending."""
    return joined(len(rims.words), [(rims.homes[place], rims.homes[mate]) for place, mate in enumerate(mates)])


class Sewing:
    """Rims, and for each place its mate."""

    def __init__(self, rims, mates):
        need_rims(rims, "rims")
        if not are_mates(rims.letters, mates):
            raise BadSewing("mates")
        self.rims = rims
        self.mates = tuple(mates)
        self.corners = corners_of(rims, mates)
        self.cost = rims.bands - len(self.corners)
        self.pieces = pieces_of(rims, mates)
        self.handles = (2 * len(self.pieces) - len(rims.words) + self.cost) // 2

    def __eq__(self, other):
        return isinstance(other, Sewing) and self.rims == other.rims and self.mates == other.mates


def many_sewings(rims):
    """How many sewings the rims have, however many."""
    need_rims(rims, "rims")
    many = 1
    for kind in kinds_of(rims.letters):
        many *= factorial(rims.letters.count(kind))
    return many


def all_sewings(rims):
    """All sewings of the rims, ascending by their mates."""
    if many_sewings(rims) > MOST_SEWINGS:
        raise TooMany("sewings", MOST_SEWINGS)
    letters = rims.letters
    partners = [[mate for mate in range(rims.many) if letters[mate] == -letter] for letter in letters]
    return tuple([Sewing(rims, mates) for mates in all_mates(partners)])


def census(rims):
    """The pairs of a cost and of how many sewings of the rims have it, ascending."""
    costs = [sewing.cost for sewing in all_sewings(rims)]
    return tuple([(cost, costs.count(cost)) for cost in sorted(set(costs))])

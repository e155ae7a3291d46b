"""Sewings: which place of rims is sewn to which, and what comes of it."""

from math import factorial

from handlerims.checks import are_integers
from handlerims.errors import BadSewing, TooMany
from handlerims.letters import kinds_of
from handlerims.rims import need_rims

MOST_SEWINGS = 720


def need_sewing(value, part):
    """Raise BadSewing unless the value is a Sewing."""
    if not isinstance(value, Sewing):
        raise BadSewing(part)


def are_mates(letters, value):
    """Whether the value is a list with a mate for each place of these letters."""
    if not are_integers(value) or len(value) != len(letters):
        return False
    for place, mate in enumerate(value):
        if not 0 <= mate < len(letters):
            return False
        if letters[mate] != -letters[place] or value[mate] != place:
            return False
    return True


def corners_of(rims, mates):
    """The rounds in which each place leads to the next of its mate, the least place first."""
    corners = []
    seen = set()
    for start in range(rims.many):
        corner = []
        place = start
        while place not in seen:
            seen.add(place)
            corner.append(place)
            place = rims.nexts[mates[place]]
        if corner:
            corners.append(tuple(corner))
    return tuple(corners)


def pieces_of(rims, mates):
    """The numbers of the rims of each piece, the pieces ascending."""
    # Each rim is marked with the least rim known to be of its piece.
    marks = list(range(len(rims.words)))
    for place, mate in enumerate(mates):
        one, other = marks[rims.homes[place]], marks[rims.homes[mate]]
        marks = [min(one, other) if mark in (one, other) else mark for mark in marks]
    pieces = []
    for least in sorted(set(marks)):
        pieces.append(tuple([rim for rim, mark in enumerate(marks) if mark == least]))
    return tuple(pieces)


class Sewing:
    """Rims, and for each place its mate."""

    def __init__(self, rims, mates):
        need_rims(rims, "rims")
        if not are_mates(rims.letters, mates):
            raise BadSewing("mates")
        self.rims = rims
        self.mates = tuple(mates)
        self.corners = corners_of(rims, mates)
        self.cost = rims.bands - len(self.corners)
        self.pieces = pieces_of(rims, mates)
        self.handles = (2 * len(self.pieces) - len(rims.words) + self.cost) // 2

    def __eq__(self, other):
        return isinstance(other, Sewing) and self.rims == other.rims and self.mates == other.mates


def many_sewings(rims):
    """How many sewings the rims have, however many."""
    need_rims(rims, "rims")
    many = 1
    for kind in kinds_of(rims.letters):
        many *= factorial(rims.letters.count(kind))
    return many


def fill_mates(letters, mates, found):
    """Add to found, ascending, all ways to give mates to the places that have None."""
    if None not in mates:
        found.append(tuple(mates))
        return
    place = mates.index(None)
    for mate, letter in enumerate(letters):
        if mates[mate] is None and letter == -letters[place]:
            more = list(mates)
            more[place], more[mate] = mate, place
            fill_mates(letters, more, found)


def all_sewings(rims):
    """All sewings of the rims, ascending by their mates."""
    if many_sewings(rims) > MOST_SEWINGS:
        raise TooMany("sewings", MOST_SEWINGS)
    found = []
    fill_mates(rims.letters, [None] * rims.many, found)
    return tuple([Sewing(rims, mates) for mates in found])


def census(rims):
    """The pairs of a cost and of how many sewings of the rims have it, ascending."""
    costs = [sewing.cost for sewing in all_sewings(rims)]
    return tuple([(cost, costs.count(cost)) for cost in sorted(set(costs))])

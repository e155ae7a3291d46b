"""The cheapest sewing of rims, and the one with the fewest handles."""

from handlerims.papers import Paper
from handlerims.sewings import all_sewings


class Cheapest(Paper):
    """The least cost of rims, and the mates of a sewing that has it."""

    def __init__(self, cost, mates):
        Paper.__init__(self, "cheapest", cost, mates)
        self.cost, self.mates = self.parts


class InOne(Paper):
    """The fewest handles of rims, and the mates of a sewing that has them."""

    def __init__(self, handles, mates):
        Paper.__init__(self, "inone", handles, mates)
        self.handles, self.mates = self.parts


def cheapest(rims):
    """The Cheapest of the rims, with the first mates that cost so little."""
    best = min(all_sewings(rims), key=lambda sewing: sewing.cost)
    return Cheapest(best.cost, best.mates)


def in_one(rims):
    """The InOne of the rims, with the first mates that have so few handles."""
    best = min(all_sewings(rims), key=lambda sewing: sewing.handles)
    return InOne(best.handles, best.mates)

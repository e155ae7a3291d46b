"""Weights of rims: worths of places and what steps weigh, which allow no price below their bound."""

from handlerims.checks import are_integers, is_within, lowest
from handlerims.errors import BadNumber, BadPaper
from handlerims.papers import Paper, is_called
from handlerims.rims import need_rims
from handlerims.walks import steps_of


class Weights(Paper):
    """Worths, place by place, what the steps weigh, and by how much they are divided."""

    def __init__(self, worths, steps, by):
        Paper.__init__(self, "weights", worths, steps, by)
        self.worths, self.steps, self.by = self.parts


def lesser(one, other):
    """The lesser one of two integers, each None if there is none."""
    if one is None or other is None:
        return other if one is None else one
    return min(one, other)


def one_step_ways(rims, numbers):
    """What the step from each place to each other weighs, None where there is none."""
    ways = [[None] * rims.many for _ in range(rims.many)]
    for (place, _, behind), number in zip(steps_of(rims), numbers):
        ways[place][behind] = number
    return ways


def ways_also_by(ways, middle):
    """The least ways between places if they may lead by way of this place, too."""
    onward = ways[middle]
    rows = []
    for row in ways:
        ahead = row[middle]
        if ahead is not None:
            row = [way if more is None else lesser(way, ahead + more) for way, more in zip(row, onward)]
        rows.append(row)
    return rows


def lightest(rims, numbers):
    """The least that the numbers of a walk's steps add up to, None if those of some walk are below 0."""
    need_rims(rims, "rims")
    if not are_integers(numbers) or len(numbers) != len(steps_of(rims)):
        raise BadNumber("numbers")
    ways = one_step_ways(rims, numbers)
    least = 0
    for middle in range(rims.many):
        ways = ways_also_by(ways, middle)
        rounds = [row[place] for place, row in enumerate(ways) if row[place] is not None]
        least = min(rounds, default=0)
        # Round such a walk again and again there would be no least way.
        if least < 0:
            return None
    return least


def are_covered(rims, worths, numbers):
    """Whether the two steps by each two places weigh together at most what the places are worth."""
    weighs = {(place, mate): number for (place, mate, _), number in zip(steps_of(rims), numbers)}
    return all([weighs[place, mate] + weighs[mate, place] <= worths[place] + worths[mate] for place, mate in weighs])


def are_weights(rims, value):
    """Whether the value is right Weights of the rims."""
    if not isinstance(value, Weights) or not is_called(value, "Weights"):
        return False
    if not are_integers(value.worths) or not are_integers(value.steps) or not is_within(value.by, 1, None):
        return False
    if len(value.worths) != rims.many or len(value.steps) != len(steps_of(rims)):
        return False
    if not are_covered(rims, value.worths, value.steps):
        return False
    least = lightest(rims, value.steps)
    return least is not None and least >= value.by


def weight_bound(rims, weights):
    """The price below which right weights allow none."""
    need_rims(rims, "rims")
    if not are_weights(rims, weights):
        raise BadPaper("weights")
    return lowest(rims.bands * weights.by - sum(weights.worths), 2 * weights.by)

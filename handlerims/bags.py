"""Bags: walks of rims, each with a number, that go from all places equally often."""

from handlerims.checks import is_listed, is_within, lowest
from handlerims.errors import BadBag
from handlerims.letters import least_start, turned_letters
from handlerims.rims import need_rims
from handlerims.sewings import need_sewing


def need_bag(value, part):
    """Raise BadBag unless the value is a Bag."""
    if not isinstance(value, Bag):
        raise BadBag(part)


def is_numbered(rims, value):
    """Whether the value is a pair of a list of places, one at least, and of a number from 1 on."""
    if not is_listed(value) or len(value) != 2 or not is_listed(value[0]) or len(value[0]) == 0:
        return False
    return is_within(value[1], 1, None) and all([is_within(place, 0, rims.many - 1) for place in value[0]])


def steps_round(rims, walk):
    """The pairs of a place of the walk and of the place ahead of the one behind it, by which its steps go."""
    return [(place, rims.nexts.index(behind)) for place, behind in zip(walk, walk[1:] + walk[:1])]


def step_counts(rims, walks):
    """How many steps of the walks go by each two places, told by pairs of places."""
    counts = {}
    for walk, number in walks:
        for step in steps_round(rims, walk):
            counts[step] = counts.get(step, 0) + number
    return counts


def copies_of(rims, counts):
    """How many steps go from each place, place by place."""
    copies = [0] * rims.many
    for step, number in counts.items():
        copies[step[0]] += number
    return copies


def are_bag_steps(rims, counts):
    """Whether these are steps, as many from each place, as many by two places as the other way about."""
    for (place, mate), number in counts.items():
        if rims.letters[mate] != -rims.letters[place] or counts.get((mate, place), 0) != number:
            return False
    copies = copies_of(rims, counts)
    return min(copies) == max(copies)


def is_bag(rims, walks):
    """Whether the walks, any value, make a bag of the rims."""
    need_rims(rims, "rims")
    if not is_listed(walks) or len(walks) == 0 or not all([is_numbered(rims, pair) for pair in walks]):
        return False
    return are_bag_steps(rims, step_counts(rims, walks))


def sorted_walks(walks):
    """The pairs of a walk, begun where it is least, and its number, ascending, equal walks as one."""
    numbers = {}
    for places, number in walks:
        walk = turned_letters(tuple(places), least_start(places))
        numbers[walk] = numbers.get(walk, 0) + number
    return tuple(sorted(list(numbers.items())))


class Bag:
    """Rims, and walks with numbers that go from each place of them as often as from any other."""

    def __init__(self, rims, walks):
        if not is_bag(rims, walks):
            raise BadBag("walks")
        counts = step_counts(rims, walks)
        self.rims = rims
        self.walks = sorted_walks(walks)
        self.many = sum([number for _, number in walks])
        self.copies = copies_of(rims, counts)[0]
        self.bands = tuple(sorted([(place, mate, counts[place, mate]) for place, mate in counts if place < mate]))
        self.cost = sum([band[2] for band in self.bands]) - self.many
        self.price = lowest(self.cost, 2 * self.copies)

    def __eq__(self, other):
        return isinstance(other, Bag) and self.rims == other.rims and self.walks == other.walks


def bag_of(sewing):
    """The Bag of the corners of a sewing, each once."""
    need_sewing(sewing, "sewing")
    return Bag(sewing.rims, [(corner, 1) for corner in sewing.corners])

"""Turnings: weighings by how far letters stand from one another in an order of letters."""

from itertools import permutations

from handlerims.checks import first_twice, is_letter, is_listed
from handlerims.errors import BadWeighing, TooMany
from handlerims.letters import kinds_of
from handlerims.papers import Paper
from handlerims.rims import need_rims
from handlerims.weighings import Weighing

MOST_ORDERED = 26
MOST_TURNED_KINDS = 3


class Turned(Paper):
    """An order of the letters of rims, and the value that its turning has on them."""

    def __init__(self, order, value):
        Paper.__init__(self, "turned", order, value)
        self.order, self.value = self.parts


def is_order(value):
    """Whether the value is a list of two letters or more, no two equal, each with its contrary."""
    if not is_listed(value) or not 2 <= len(value) <= MOST_ORDERED or not all([is_letter(one) for one in value]):
        return False
    return first_twice(value) is None and all([-letter in value for letter in value])


def turning_counts(order):
    """What each stretch of the letters of the order counts, by pairs of letters that are no contraries."""
    many = len(order)
    counts = {}
    for at, letter in enumerate(order):
        for on in range(1, many):
            counts[-letter, order[(at + on) % many]] = many - 2 * on
    return counts


def turning(order):
    """The Weighing that counts x y by how many letters y stands behind x' in the order, read round."""
    if not is_order(order):
        raise BadWeighing("order")
    counts = turning_counts(order)
    return Weighing([(first, second, counts[first, second]) for first, second in counts if first + second < 0])


def stretches_round(rims):
    """The pairs of each letter and the next, but for contraries, which count nothing."""
    pairs = [(letter, rims.letters[behind]) for letter, behind in zip(rims.letters, rims.nexts)]
    return [(first, second) for first, second in pairs if second != -first]


def turning_value(order, stretches):
    """What the stretches, all of letters of the order, count together in its turning."""
    counts = turning_counts(order)
    return sum([counts[stretch] for stretch in stretches])


def all_orders(kinds):
    """All orders of the letters of these kinds, each begun with its least letter, ascending."""
    letters = sorted([sign * kind for kind in kinds for sign in (1, -1)])
    return [letters[:1] + list(others) for others in permutations(letters[1:])]


def best_turning(rims):
    """The Turned of the greatest value of any order of all letters of the rims' kinds, with the first such order."""
    need_rims(rims, "rims")
    kinds = kinds_of(rims.letters)
    if len(kinds) > MOST_TURNED_KINDS:
        raise TooMany("kinds", MOST_TURNED_KINDS)
    stretches = stretches_round(rims)
    orders = all_orders(kinds)
    values = [turning_value(order, stretches) for order in orders]
    best = max(values)
    return Turned(orders[values.index(best)], best)

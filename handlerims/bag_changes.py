"""Bags added, taken some times, brought to the least numbers, and with their walks parted."""

from handlerims.bags import Bag, need_bag
from handlerims.checks import common_divisor
from handlerims.errors import Misfit
from handlerims.needs import need_within


def added(one, other):
    """The Bag of the walks of both."""
    need_bag(one, "one")
    need_bag(other, "other")
    if one.rims != other.rims:
        raise Misfit("rims")
    return Bag(one.rims, one.walks + other.walks)


def times(bag, number):
    """The Bag of so many times as many of each walk."""
    need_bag(bag, "bag")
    need_within(number, 1, None, "number")
    return Bag(bag.rims, [(walk, many * number) for walk, many in bag.walks])


def lowest_bag(bag):
    """The Bag with each number divided by the greatest integer that divides them all."""
    need_bag(bag, "bag")
    divisor = 0
    for _, number in bag.walks:
        divisor = common_divisor(divisor, number)
    return Bag(bag.rims, [(walk, number // divisor) for walk, number in bag.walks])


def simple_walks_in(walk):
    """The walks into which this one is parted where it comes to a place twice."""
    found, ahead = [], []
    for place in walk:
        if place in ahead:
            at = ahead.index(place)
            found.append(ahead[at:])
            ahead = ahead[:at]
        ahead.append(place)
    return found + [ahead]


def parted_walks(bag):
    """The Bag whose walks are parted until none comes to a place twice."""
    need_bag(bag, "bag")
    return Bag(bag.rims, [(part, number) for walk, number in bag.walks for part in simple_walks_in(walk)])

"""The price of rims: half of what a copy costs in the long run."""

from handlerims.bag_changes import lowest_bag
from handlerims.balance import need_balanced
from handlerims.bags import Bag, steps_round
from handlerims.cheapest import cheapest
from handlerims.checks import common_divisor
from handlerims.equations import Equations
from handlerims.errors import Misfit, TooMany
from handlerims.needs import need_within
from handlerims.papers import Paper
from handlerims.rims import Rims, need_rims
from handlerims.sewings import Sewing
from handlerims.walks import MOST_WALKED, steps_of, walks_within
from handlerims.weights import Weights
from handlerims.words import need_word

MOST_PRICED = 150


class Price(Paper):
    """The price top by bottom, walks that make a bag with it, and Weights with it as their bound."""

    def __init__(self, top, bottom, walks, weights):
        Paper.__init__(self, "price", top, bottom, walks, weights)
        self.top, self.bottom, self.walks, self.weights = self.parts


def divided(numbers):
    """The numbers, not all 0, divided by the greatest integer that divides them all."""
    divisor = 0
    for number in numbers:
        divisor = common_divisor(divisor, number)
    return [number // divisor for number in numbers]


def bands_of(rims):
    """The pairs of places with contrary letters, the lesser one first."""
    return [(place, mate) for place, mate, _ in steps_of(rims) if place < mate]


def first_places(rims):
    """The first place of each word."""
    return [rims.homes.index(home) for home in range(len(rims.words))]


def column_of(rims, bands, walk):
    """What the walk counts in each equation: its steps by a band less those back, then its copies of each word."""
    steps = steps_round(rims, walk)
    turns = [steps.count((place, mate)) - steps.count((mate, place)) for place, mate in bands]
    # With as many steps back by each band, all places of a word have as many copies as its first one.
    return turns + [walk.count(first) for first in first_places(rims)]


def weights_of(rims, bands, worths, unit):
    """The Weights that the worths of the equations make."""
    places = [0] * rims.many
    for first, worth in zip(first_places(rims), worths[len(bands):]):
        places[first] = worth
    turns = {}
    for (place, mate), worth in zip(bands, worths):
        turns[place, mate], turns[mate, place] = worth, -worth
    steps = [places[place] + turns[place, mate] for place, mate, _ in steps_of(rims)]
    numbers = divided(places + steps + [unit])
    return Weights(numbers[:rims.many], numbers[rims.many:-1], numbers[-1])


def price(rims):
    """The Price of rims that are shortened round."""
    need_rims(rims, "rims")
    if not rims.is_short:
        raise Misfit("short")
    walks = walks_within(rims, MOST_PRICED)
    bands = bands_of(rims)
    table = Equations([column_of(rims, bands, walk) for walk in walks], [0] * len(bands) + [1] * len(rims.words))
    # The corners of a sewing are simple walks, and a bag of one copy: with them no number is below 0.
    corners = Sewing(rims, cheapest(rims).mates).corners
    table.begin([walks.index(corner) for corner in corners])
    table.improve()
    bag = lowest_bag(Bag(rims, [(walks[at], number) for at, number in table.solution()]))
    weights = weights_of(rims, bands, table.sum_worths(), table.unit)
    return Price(bag.price[0], bag.price[1], bag.walks, weights)


def price_word(word):
    """The Price of the one ring that a word is, shortened round."""
    need_word(word, "word")
    ring = word.shortened_round()
    if ring.length == 0:
        raise Misfit("empty")
    need_balanced(ring.letters)
    # Rims can have more letters: that these are too many for a price is told ahead of that.
    if ring.length > MOST_WALKED:
        raise TooMany("letters", MOST_WALKED)
    return price(Rims([ring]))


def handles_at_least(top, bottom, rounds):
    """The least integer that is not below so many rounds of the price top by bottom, and one half."""
    need_within(top, 1, None, "top")
    need_within(bottom, 1, None, "bottom")
    need_within(rounds, 1, None, "rounds")
    return -((-2 * rounds * top - bottom) // (2 * bottom))

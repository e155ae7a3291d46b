"""Mistakes of weighings, and the bars to prices that they set."""

from itertools import combinations

from handlerims.checks import MOST_KIND, first_twice, is_listed, is_within, lowest
from handlerims.errors import BadNumber, Misfit, Twice
from handlerims.letters import kinds_of
from handlerims.needs import need_letter
from handlerims.papers import Denial, Paper
from handlerims.rims import need_rims
from handlerims.weighings import count_of, need_weighing, value_round


class Mistake(Paper):
    """The greatest three of a weighing for some kinds, and three letters whose three it is."""

    def __init__(self, number, three):
        Paper.__init__(self, "mistake", number, three)
        self.number, self.three = self.parts


class AtLeast(Paper):
    """A fraction that a price is not below."""

    def __init__(self, top, bottom):
        Paper.__init__(self, "atleast", top, bottom)
        self.top, self.bottom = self.parts


class NoBar(Denial):
    """The value is not above 0: it sets no bar to a price."""

    def __init__(self):
        Denial.__init__(self, "nobar")


def count_three(weighing, x, y, z):
    """What x' y, y' z and z' x count together."""
    return count_of(weighing, -x, y) + count_of(weighing, -y, z) + count_of(weighing, -z, x)


def three_of(weighing, x, y, z):
    """The three of these letters."""
    need_weighing(weighing, "weighing")
    for letter in (x, y, z):
        need_letter(letter)
    return count_three(weighing, x, y, z)


def need_kinds(kinds):
    """Raise what is told unless these are kinds, one at least, no two equal."""
    if not is_listed(kinds) or len(kinds) == 0 or not all([is_within(kind, 1, MOST_KIND) for kind in kinds]):
        raise BadNumber("kinds")
    again = first_twice(kinds)
    if again is not None:
        raise Twice(again)


def mistake_of(weighing, kinds):
    """The Mistake of the weighing for these kinds, with the first three letters that have it."""
    need_weighing(weighing, "weighing")
    need_kinds(kinds)
    # A three with a letter twice is 0.
    best, three = 0, (kinds[0], kinds[0], kinds[0])
    for x, y, z in combinations([sign * kind for kind in kinds for sign in (1, -1)], 3):
        number = count_three(weighing, x, y, z)
        # Begun at another letter a three is the same, told the other way about it is times -1.
        if abs(number) > best:
            best = abs(number)
            three = (x, y, z) if number > 0 else (z, y, x)
    return Mistake(best, three)


def bar(weighing, rims):
    """The AtLeast of the price of the rims that the weighing tells, or the NoBar."""
    need_weighing(weighing, "weighing")
    need_rims(rims, "rims")
    if not rims.is_short:
        raise Misfit("short")
    value = value_round(weighing, rims)
    if value <= 0:
        return NoBar()
    # With a value above 0 there is a mistake.
    top, bottom = lowest(value, 4 * mistake_of(weighing, kinds_of(rims.letters)).number)
    return AtLeast(top, bottom)

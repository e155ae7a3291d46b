"""Handles: the fewest that a sewing of a word as one rim has."""

from handlerims.balance import need_balanced
from handlerims.needs import need_within
from handlerims.papers import Paper
from handlerims.rims import Rims
from handlerims.sewings import all_sewings
from handlerims.words import need_word


class Handles(Paper):
    """The handles of a word, the word shortened round, and mates that have so many."""

    def __init__(self, number, ring, mates):
        Paper.__init__(self, "handles", number, ring, mates)
        self.number, self.ring, self.mates = self.parts


def handles_of(word):
    """The Handles of a balanced word, with the first mates that have so few."""
    need_word(word, "word")
    need_balanced(word.letters)
    ring = word.shortened_round()
    if ring.length == 0:
        return Handles(0, ring, ())
    # That there are too many letters, or too many sewings, is told by the rims and by all_sewings.
    best = min(all_sewings(Rims([ring])), key=lambda sewing: sewing.handles)
    return Handles(best.handles, ring, best.mates)


def rounds_of_exchange(times):
    """The handles of so many rounds of the exchange of two letters."""
    need_within(times, 0, None, "times")
    return times // 2 + 1 if times > 0 else 0


def most_for_rounds(handles, times):
    """The most handles that so many rounds of a word with these handles can have."""
    need_within(handles, 1, None, "handles")
    need_within(times, 1, None, "times")
    return times * handles - (times - 1) // 2

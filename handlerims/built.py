"""Bags built into sewings, and the bags of sewings whose rims are rounds of words."""

from handlerims.bags import Bag, need_bag, steps_round
from handlerims.checks import is_listed, is_within
from handlerims.errors import BadNumber, Misfit, TooMany
from handlerims.mating import mates_among
from handlerims.papers import Paper
from handlerims.rims import MOST_WORDS, Rims, need_few_places, need_rims
from handlerims.sewings import Sewing, need_sewing
from handlerims.words import Word


class Built(Paper):
    """A Sewing, and for each of its rims the number of the word of which it is some rounds."""

    def __init__(self, sewing, words):
        Paper.__init__(self, "built", sewing, words)
        self.sewing, self.words = self.parts


def are_numbers_of_words(sewing, rims, value):
    """Whether the value is a list with the number of a word of the rims for each rim of the sewing."""
    if not is_listed(value) or len(value) != len(sewing.rims.words):
        return False
    return all([is_within(number, 0, len(rims.words) - 1) for number in value])


def rounds_of(rim, word):
    """How many rounds of the word the rim is, from place 0 on; 0 if it is none."""
    many = rim.length // word.length
    return many if word.letters * many == rim.letters else 0


def are_equal_rounds(sewing, rims, words):
    """Whether each rim is some rounds of its word, and each word is had in as many, one at least."""
    totals = [0] * len(rims.words)
    for rim, number in zip(sewing.rims.words, words):
        many = rounds_of(rim, rims.words[number])
        if many == 0:
            return False
        totals[number] += many
    return min(totals) == max(totals)


def bag_of_rounds(sewing, rims, words):
    """The Bag of the rims that the corners of the sewing are, its rims being some rounds of these words."""
    need_sewing(sewing, "sewing")
    need_rims(rims, "rims")
    if not are_numbers_of_words(sewing, rims, words):
        raise BadNumber("words")
    if not are_equal_rounds(sewing, rims, words):
        raise Misfit("rounds")
    places = []
    for rim, number in zip(sewing.rims.words, words):
        first = rims.homes.index(number)
        places.extend([first + at % rims.words[number].length for at in range(rim.length)])
    return Bag(rims, [([places[at] for at in corner], 1) for corner in sewing.corners])


def steps_in(bag):
    """All steps of the bag, each as often as it is counted: its two places, and the number of the step behind it."""
    steps = []
    for walk, number in bag.walks:
        row = steps_round(bag.rims, walk)
        for _ in range(number):
            first = len(steps)
            steps.extend([(place, mate, first + (at + 1) % len(row)) for at, (place, mate) in enumerate(row)])
    return steps


def steps_together(steps):
    """For each step by i and j the number of a step by j and i, whose own one the first is."""
    mates = [0] * len(steps)
    waiting = {}
    for at, (place, mate, _) in enumerate(steps):
        others = waiting.get((mate, place), [])
        # Each has its own one if there are as many by i and j as by j and i.
        if others:
            mates[at] = others.pop()
            mates[mates[at]] = at
        else:
            waiting.setdefault((place, mate), []).append(at)
    return mates


def rounds_of_copies(steps, behind, first):
    """The rounds in which the steps, as copies of their places, come one behind the other, begun at copies of first."""
    rounds = []
    seen = set()
    for start in [at for at, step in enumerate(steps) if step[0] == first]:
        row = []
        at = start
        while at not in seen:
            seen.add(at)
            row.append(at)
            at = behind[at]
        if row:
            rounds.append(row)
    return rounds


def built(bag):
    """The Built of a Sewing whose bag this is."""
    need_bag(bag, "bag")
    need_few_places(bag.copies * bag.rims.many)
    if bag.copies * len(bag.rims.words) > MOST_WORDS:
        raise TooMany("words", MOST_WORDS)
    steps = steps_in(bag)
    mates = steps_together(steps)
    # Behind a copy comes what is behind its mate in the walk: a copy of the next of its place.
    behind = [steps[mate][2] for mate in mates]
    rows, words = [], []
    for number in range(len(bag.rims.words)):
        rounds = rounds_of_copies(steps, behind, bag.rims.homes.index(number))
        rows.extend(rounds)
        words.extend([number] * len(rounds))
    rims = Rims([Word([bag.rims.letters[steps[at][0]] for at in row]) for row in rows])
    return Built(Sewing(rims, mates_among(mates, [at for row in rows for at in row])), words)

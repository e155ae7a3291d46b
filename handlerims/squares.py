"""Squares of a word: the fewest words that spell it, each twice behind itself."""

from handlerims.crossed import all_crossed
from handlerims.errors import Impossible
from handlerims.letters import contrary_letters, counts_of, ends_and_ring, shortened_letters
from handlerims.needs import need_within
from handlerims.papers import Denial, Paper
from handlerims.words import Word, need_word


class Squares(Paper):
    """The squares of a word, the word shortened round, and mates that have so many."""

    def __init__(self, number, ring, mates):
        Paper.__init__(self, "squares", number, ring, mates)
        self.number, self.ring, self.mates = self.parts


class Odd(Denial):
    """The least odd kind of a word, which no squares spell."""

    def __init__(self, kind):
        Denial.__init__(self, "odd", kind)
        self.kind = self.parts[0]


def fewest_squares(word):
    """The Squares of a word, with the first mates that have so few; None if it has an odd kind."""
    need_word(word, "word")
    ring = word.shortened_round()
    if ring.length == 0:
        return Squares(0, ring, ())
    # That there are too many letters, or too many sewings, is told by all_crossed.
    sewings = all_crossed(ring)
    if not sewings:
        return None
    best = min(sewings, key=lambda sewing: sewing.squares)
    return Squares(best.squares, ring, best.mates)


def squares_of(word):
    """The Squares of a word without odd kinds."""
    found = fewest_squares(word)
    if found is None:
        raise Impossible(Odd(odd_kinds(word)[0]))
    return found


def most_squares(handles):
    """The most squares that a word of so many handles can have."""
    need_within(handles, 0, None, "handles")
    return 2 * handles + 1 if handles > 0 else 0


def as_square(word):
    """The word, shortened, whose square shortens to what this word does; None if there is none."""
    need_word(word, "word")
    ends, ring = ends_and_ring(shortened_letters(word.letters))
    half = len(ring) // 2
    if ring != ring[:half] * 2:
        return None
    return Word(ends + ring[:half] + contrary_letters(ends))


def odd_kinds(word):
    """The ascending tuple of the kinds that stand in the word an odd number of times."""
    need_word(word, "word")
    return tuple([kind for kind, count in counts_of(word.letters) if count % 2 == 1])

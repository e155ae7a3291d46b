"""Words spelled as squares."""

from handlerims.checks import is_listed
from handlerims.crossed import CrossSewing
from handlerims.errors import BadSewing, BadWord, TooMany
from handlerims.letters import contrary_letters, ends_and_ring
from handlerims.mating import mates_among
from handlerims.papers import Paper
from handlerims.spelled import rows_of_ring
from handlerims.squares import squares_of
from handlerims.words import Word, need_word, word_of

MOST_SQUARED = 12
MOST_SPELLED = 24


class SquareSpelling(Paper):
    """Words whose squares, one behind the other, spell a word."""

    def __init__(self, words):
        Paper.__init__(self, "squarespelling", words)
        self.words = self.parts[0]


def are_words_to_square(value):
    """Whether the value is a list of Words, not too many."""
    return is_listed(value) and len(value) <= MOST_SQUARED and all([isinstance(word, Word) for word in value])


def square_letters(words):
    """The letters, however many, of the squares of these Words, one behind the other."""
    return [letter for word in words for letter in word.letters * 2]


def square_product(words):
    """The Word, shortened, that these words spell as squares."""
    if not are_words_to_square(words):
        raise BadWord("words")
    return word_of(square_letters(words))


def rows_for_exchange(one, other):
    """Three tuples of letters that spell the exchange of two as squares."""
    return [one, contrary_letters(one) + other, contrary_letters(other)]


def rows_ahead(square, one, other):
    """Three tuples of letters that spell, as squares, the square of the first and then the exchange of two."""
    both = square + one
    back_both, back_other = contrary_letters(both), contrary_letters(other)
    return [both + contrary_letters(one) + both + other + back_both, both + back_other + back_both + back_both, both]


def three_squares(one, other):
    """The three Words that spell the exchange of two as squares."""
    need_word(one, "one")
    need_word(other, "other")
    return tuple([word_of(row) for row in rows_for_exchange(one.letters, other.letters)])


def squared_ahead(square, one, other):
    """The three Words that spell, as squares, the square of the first and then the exchange of two."""
    need_word(square, "square")
    need_word(one, "one")
    need_word(other, "other")
    return tuple([word_of(row) for row in rows_ahead(square.letters, one.letters, other.letters)])


def first_alike(letters, mates):
    """The least place whose mate has the same letter, None if there is none."""
    for place, mate in enumerate(mates):
        if letters[mate] == letters[place]:
            return place
    return None


def square_at(letters, mates, place):
    """What is squared where alike mates are taken off, and the letters and mates left behind it.

    The ring is A x B x C: the square of A x B A', and then A B' C.
    """
    mate = mates[place]
    ahead, between = letters[:place], letters[place + 1:mate]
    row = ahead + letters[place:mate] + contrary_letters(ahead)
    places = list(range(len(letters)))
    left = places[:place] + places[place + 1:mate][::-1] + places[mate + 1:]
    return (row, ahead + contrary_letters(between) + letters[mate + 1:], mates_among(mates, left))


def square_rows(letters, mates):
    """The tuples of letters that spell the ring as squares, as many as the squares of the crossed sewing."""
    rows = []
    place = first_alike(letters, mates)
    while place is not None:
        row, letters, mates = square_at(letters, mates, place)
        rows.append(row)
        place = first_alike(letters, mates)
    for one, other in rows_of_ring(letters, mates):
        if rows:
            rows = rows[:-1] + rows_ahead(rows[-1], one, other)
        else:
            rows = rows_for_exchange(one, other)
    return rows


def square_spelled(sewing):
    """The SquareSpelling of the word of a CrossSewing, by as many words as its squares."""
    if not isinstance(sewing, CrossSewing):
        raise BadSewing("sewing")
    return SquareSpelling([word_of(row) for row in square_rows(sewing.word.letters, sewing.mates)])


def square_spelled_word(word):
    """The SquareSpelling of a word by as few words as can be."""
    need_word(word, "word")
    short = word.shortened()
    if short.length > MOST_SPELLED:
        raise TooMany("letters", MOST_SPELLED)
    found = squares_of(word)
    ends, ring = ends_and_ring(short.letters)
    rows = square_rows(ring, found.mates)
    return SquareSpelling([word_of(ends + row + contrary_letters(ends)) for row in rows])

"""Whether papers about squares are right."""

from handlerims.checks import is_integer
from handlerims.crossed import CrossSewing, are_crossed_mates
from handlerims.letters import shortened_letters
from handlerims.papers import is_called
from handlerims.square_spelled import SquareSpelling, are_words_to_square, square_letters
from handlerims.squares import Squares, fewest_squares
from handlerims.words import Word, need_word


def shows_squares(word, value):
    """Whether the value is the Squares of the word, with any mates of a crossed sewing that has so few."""
    found = fewest_squares(word)
    # A word with an odd kind has none.
    if found is None or not isinstance(value, Squares) or not is_called(value, "Squares"):
        return False
    if not is_integer(value.number) or value.number != found.number:
        return False
    if not isinstance(value.ring, Word) or value.ring != found.ring:
        return False
    if not are_crossed_mates(found.ring.letters, value.mates):
        return False
    return found.ring.length == 0 or CrossSewing(found.ring, value.mates).squares == found.number


def shows_square_spelling(word, value):
    """Whether the value is a SquareSpelling of the word, whatever its number of words."""
    need_word(word, "word")
    if not isinstance(value, SquareSpelling) or not is_called(value, "SquareSpelling"):
        return False
    if not are_words_to_square(value.words):
        return False
    return shortened_letters(square_letters(value.words)) == shortened_letters(word.letters)

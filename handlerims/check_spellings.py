"""Whether papers about spellings are right."""

from handlerims.letters import shortened_letters
from handlerims.spelled import spelled_word
from handlerims.spellings import is_right_spelling, product_letters
from handlerims.words import need_word


def shows_spelling(word, value):
    """Whether the value is a right Spelling that spells the word, whatever its number of pairs."""
    need_word(word, "word")
    if not is_right_spelling(value):
        return False
    return shortened_letters(product_letters(value.pairs)) == shortened_letters(word.letters)


def shows_fewest(word, value):
    """Whether the value is a right Spelling that spells the word by as few pairs as can be."""
    fewest = len(spelled_word(word).pairs)
    return shows_spelling(word, value) and len(value.pairs) == fewest

"""Letters and words put for kinds."""

from handlerims.checks import MOST_KIND, first_twice, is_listed, is_within
from handlerims.errors import BadNumber, NoLetter, Twice
from handlerims.letters import replaced_letters, worths_of
from handlerims.needs import need_kind, need_letter
from handlerims.words import Word, need_word


def need_pairs(pairs):
    """Raise what is told for pairs that are not some kinds, each once, and letters."""
    if not is_listed(pairs) or not all([is_listed(pair) and len(pair) == 2 for pair in pairs]):
        raise BadNumber("pairs")
    for kind, letter in pairs:
        if not is_within(kind, 1, MOST_KIND):
            raise NoLetter(kind)
        need_letter(letter)
    again = first_twice([kind for kind, _ in pairs])
    if again is not None:
        raise Twice(again)


def renamed(word, pairs):
    """The word with letters put for kinds, all at once."""
    need_word(word, "word")
    need_pairs(pairs)
    names = {}
    for kind, letter in pairs:
        names[kind] = letter
        names[-kind] = -letter
    return Word([names.get(letter, letter) for letter in word.letters])


def put(word, kind, other):
    """The word with the other one put for the kind."""
    need_word(word, "word")
    need_kind(kind, "kind")
    need_word(other, "other")
    return Word(replaced_letters(word.letters, worths_of(kind, other.letters)))

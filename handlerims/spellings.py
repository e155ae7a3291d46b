"""Spellings: pairs of words whose exchanges, one behind the other, spell a word."""

from handlerims.checks import is_listed
from handlerims.errors import BadPaper, BadWord
from handlerims.letters import contrary_letters, exchange_letters, replaced_letters, shortened_letters, worths_of
from handlerims.needs import need_kind
from handlerims.papers import Paper, is_called
from handlerims.words import Word, need_word, word_of

MOST_PAIRS = 12


class Spelling(Paper):
    """Pairs of words, the exchanges of which spell a word."""

    def __init__(self, pairs):
        Paper.__init__(self, "spelling", pairs)
        self.pairs = self.parts[0]


def is_word_pair(value):
    """Whether the value is a pair of Words."""
    return is_listed(value) and len(value) == 2 and all([isinstance(part, Word) for part in value])


def are_word_pairs(value):
    """Whether the value is a list of pairs of Words, not too many."""
    return is_listed(value) and len(value) <= MOST_PAIRS and all([is_word_pair(pair) for pair in value])


def need_word_pairs(value, part):
    """Raise BadWord unless the value is a list of pairs of Words, not too many."""
    if not are_word_pairs(value):
        raise BadWord(part)


def is_right_spelling(value):
    """Whether the value is a Spelling, and a right one."""
    return isinstance(value, Spelling) and is_called(value, "Spelling") and are_word_pairs(value.pairs)


def need_spelling(value, part):
    """Raise BadPaper unless the value is a right Spelling."""
    if not is_right_spelling(value):
        raise BadPaper(part)


def product_letters(pairs):
    """The letters, however many, of the exchanges of these pairs of Words, one behind the other."""
    letters = []
    for one, other in pairs:
        letters.extend(exchange_letters(one.letters, other.letters))
    return letters


def product_of(pairs):
    """The exchanges of the pairs, one behind the other, shortened."""
    need_word_pairs(pairs, "pairs")
    return word_of(product_letters(pairs))


def spelling_of(rows):
    """The Spelling of pairs of tuples of letters, which it shortens."""
    return Spelling([[word_of(letters) for letters in row] for row in rows])


def undone(spelling):
    """The Spelling of the contrary of what this one spells."""
    need_spelling(spelling, "spelling")
    return spelling_of([(other.letters, one.letters) for one, other in spelling.pairs[::-1]])


def moved(spelling, word):
    """The Spelling with each word between this word and its contrary."""
    need_spelling(spelling, "spelling")
    need_word(word, "word")
    ends, back = word.letters, contrary_letters(word.letters)
    return spelling_of([[ends + part.letters + back for part in pair] for pair in spelling.pairs])


def put_in(spelling, kind, word):
    """The Spelling with this word put for the kind in each word."""
    need_spelling(spelling, "spelling")
    need_kind(kind, "kind")
    need_word(word, "word")
    # Shortened ahead, what is put and where it is put makes no more letters than it has to.
    worths = worths_of(kind, shortened_letters(word.letters))
    rows = [[shortened_letters(part.letters) for part in pair] for pair in spelling.pairs]
    return spelling_of([[replaced_letters(letters, worths) for letters in row] for row in rows])

"""How much more often kinds run forward than backward."""

from handlerims.errors import Unbalanced
from handlerims.letters import balance_of
from handlerims.words import need_word


def balance(word):
    """The pairs (kind, balance) of the word, the kinds ascending, none with 0."""
    need_word(word, "word")
    return balance_of(word.letters)


def is_balanced(word):
    """Whether each kind runs as often forward as backward."""
    return balance(word) == ()


def need_balanced(letters):
    """Raise Unbalanced, with the least kind, unless the letters are balanced."""
    pairs = balance_of(letters)
    if pairs:
        raise Unbalanced(pairs[0][0])

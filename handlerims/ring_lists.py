"""Lists of balanced rings of few kinds and few letters."""

from handlerims.handles import handles_of
from handlerims.letters import balance_of
from handlerims.needs import need_within
from handlerims.rings import least_turned
from handlerims.words import Word

MOST_LISTED_KINDS = 2
MOST_LISTED_LETTERS = 8


def short_rows(kinds, letters):
    """All short rows of so many letters, of the kinds from 1 to kinds, ascending."""
    signs = [sign for sign in range(-kinds, kinds + 1) if sign != 0]
    rows = [()]
    for _ in range(letters):
        rows = [row + (sign,) for row in rows for sign in signs if not row or row[-1] != -sign]
    return rows


def is_listed_ring(word, kinds):
    """Whether the word is short round, balanced, of just so many kinds, and its own least turned form."""
    if not word.is_short_round or len(word.kinds) != kinds or balance_of(word.letters):
        return False
    return least_turned(word) == word


def need_ring_numbers(kinds, letters):
    """Raise BadNumber unless rings of so many kinds and letters are listed."""
    need_within(kinds, 1, MOST_LISTED_KINDS, "kinds")
    need_within(letters, 1, MOST_LISTED_LETTERS, "letters")


def balanced_rings(kinds, letters):
    """The least turned forms of all balanced rings of so many kinds and letters that are short round."""
    need_ring_numbers(kinds, letters)
    words = [Word(row) for row in short_rows(kinds, letters)]
    return tuple([word for word in words if is_listed_ring(word, kinds)])


def rings_with(kinds, letters, handles):
    """Those of the balanced rings that have so many handles."""
    need_ring_numbers(kinds, letters)
    need_within(handles, 0, None, "handles")
    return tuple([ring for ring in balanced_rings(kinds, letters) if handles_of(ring).number == handles])

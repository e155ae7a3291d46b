"""Rims: words read round, balanced together, and their places."""

from handlerims.balance import need_balanced
from handlerims.checks import is_listed, is_within
from handlerims.errors import BadRims, BadText, BadWord, NoPlace, TooMany
from handlerims.letters import balance_of
from handlerims.texts import items_of, letter_of
from handlerims.words import Word, is_filled

MOST_WORDS = 4
MOST_PLACES = 24


def need_rims(value, part):
    """Raise BadRims unless the value is a Rims."""
    if not isinstance(value, Rims):
        raise BadRims(part)


def need_place(rims, value):
    """Raise NoPlace unless the value is a place of the rims."""
    if not is_within(value, 0, rims.many - 1):
        raise NoPlace(value)


def need_few_places(many):
    """Raise TooMany if rims cannot have so many letters."""
    if many > MOST_PLACES:
        raise TooMany("letters", MOST_PLACES)


class Rims:
    """One to four words, read round and balanced together."""

    def __init__(self, words):
        if not is_listed(words) or not 1 <= len(words) <= MOST_WORDS:
            raise BadWord("words")
        if not all([is_filled(word) for word in words]):
            raise BadWord("words")
        letters = [letter for word in words for letter in word.letters]
        need_few_places(len(letters))
        need_balanced(letters)
        self.words = tuple(words)
        self.letters = tuple(letters)
        self.many = len(letters)
        self.bands = len(letters) // 2
        self.is_short = all([word.is_short_round for word in words])
        self.homes = tuple([home for home, word in enumerate(words) for _ in word.letters])
        self.nexts = nexts_of(words)

    def __eq__(self, other):
        return isinstance(other, Rims) and self.words == other.words

    def __str__(self):
        return " / ".join([str(word) for word in self.words])

    def next(self, place):
        """The place behind this one in its word, read round."""
        need_place(self, place)
        return self.nexts[place]

    def rim_of(self, place):
        """The number of the word in which the place is."""
        need_place(self, place)
        return self.homes[place]

    @staticmethod
    def read(text):
        """The rims whose text this is."""
        items = items_of(text)
        rows = rows_of(items)
        if not rows[-1]:
            raise BadText(0, len(items))
        # Only the whole shows whether rims are balanced: the last item cannot stand.
        if balance_of([letter for row in rows for letter in row]):
            raise BadText(0, len(items) - 1)
        return Rims([Word(row) for row in rows])


def nexts_of(words):
    """The next of each place of the words, the last place of a word leading to its first."""
    nexts = []
    for word in words:
        first = len(nexts)
        nexts.extend([first + (at + 1) % word.length for at in range(word.length)])
    return tuple(nexts)


def rows_of(items):
    """The letters of each word that the items tell; the last word may lack its letters."""
    rows = [[]]
    many = 0
    for at, item in enumerate(items):
        letter = letter_of(item)
        if many == MOST_PLACES:
            raise BadText(0, at)
        if letter is not None:
            rows[-1].append(letter)
            many += 1
        elif item == "/" and rows[-1] and len(rows) < MOST_WORDS:
            rows.append([])
        else:
            raise BadText(0, at)
    return rows


def rims_from(letters, homes):
    """The rims of these letters, place by place, with the number of the word of each."""
    words = []
    for home in sorted(set(homes)):
        words.append(Word([letter for at, letter in enumerate(letters) if homes[at] == home]))
    return Rims(words)

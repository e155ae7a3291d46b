"""Words: letters one behind the other."""

from handlerims.checks import is_letter, is_listed
from handlerims.errors import BadText, BadWord, TooMany
from handlerims.letters import (contrary_letters, exchange_letters, kinds_of, rounded_letters, shortened_letters,
                                turned_letters)
from handlerims.needs import need_integer, need_letter
from handlerims.texts import items_told, letter_of, letter_text

MOST_LETTERS = 500


def need_word(value, part):
    """Raise BadWord unless the value is a Word."""
    if not isinstance(value, Word):
        raise BadWord(part)


def is_filled(value):
    """Whether the value is a Word that is not empty."""
    return isinstance(value, Word) and value.length > 0


def need_few_letters(many):
    """Raise TooMany if a word cannot have so many letters."""
    if many > MOST_LETTERS:
        raise TooMany("letters", MOST_LETTERS)


def word_of(letters):
    """The Word of what is left of these letters, however many, when they are shortened."""
    left = shortened_letters(letters)
    need_few_letters(len(left))
    return Word(left)


class Word:
    """0 to 500 letters, one behind the other."""

    def __init__(self, letters):
        if not is_listed(letters) or not all([is_letter(letter) for letter in letters]):
            raise BadWord("letters")
        need_few_letters(len(letters))
        self.letters = tuple(letters)
        self.length = len(letters)
        self.kinds = kinds_of(letters)
        self.is_short = shortened_letters(letters) == self.letters
        self.is_short_round = rounded_letters(letters) == self.letters

    def __eq__(self, other):
        return isinstance(other, Word) and self.letters == other.letters

    def __len__(self):
        return len(self.letters)

    def __str__(self):
        if not self.letters:
            return "-"
        return " ".join([letter_text(letter) for letter in self.letters])

    def contrary(self):
        """The contraries of its letters, the last one first."""
        return Word(contrary_letters(self.letters))

    def shortened(self):
        """The word without contraries side by side."""
        return Word(shortened_letters(self.letters))

    def shortened_round(self):
        """The word shortened, also between its last letter and its first."""
        return Word(rounded_letters(self.letters))

    def turned(self, by):
        """The word begun at this place, counted on round it."""
        need_integer(by, "by")
        return Word(turned_letters(self.letters, by))

    def then(self, other):
        """The word and then the other one."""
        need_word(other, "other")
        return Word(self.letters + other.letters)

    def times(self, number):
        """The word so often, for a number below 0 its contrary so often."""
        need_integer(number, "number")
        # An empty word stays empty, and a long one is refused, before numbers of any size build a list.
        if self.length == 0:
            return Word([])
        need_few_letters(self.length * abs(number))
        once = self.letters if number > 0 else contrary_letters(self.letters)
        return Word(once * abs(number))

    def many_of(self, letter):
        """How often this letter stands in it, its contrary not counted."""
        need_letter(letter)
        return self.letters.count(letter)

    @staticmethod
    def exchange(one, other):
        """The one, the other, the contrary of the one, that of the other."""
        need_word(one, "one")
        need_word(other, "other")
        return Word(exchange_letters(one.letters, other.letters))

    @staticmethod
    def read(text):
        """The word whose text this is."""
        letters = [letter_of(item) for item in items_told(text)]
        for at, letter in enumerate(letters):
            if letter is None or at == MOST_LETTERS:
                raise BadText(0, at)
        return Word(letters)

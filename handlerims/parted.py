"""Words that are x y z and then the contraries of x, y and z, in this order."""

from handlerims.balance import need_balanced
from handlerims.errors import TooMany
from handlerims.letters import contrary_letters, turned_letters
from handlerims.papers import Denial, Paper
from handlerims.words import Word, need_word

MOST_PARTED = 48


class Parted(Paper):
    """A turn of the word shortened round, and the words by which it is parted there."""

    def __init__(self, turn, x, y, z):
        Paper.__init__(self, "parted", turn, x, y, z)
        self.turn, self.x, self.y, self.z = self.parts


class NotParted(Denial):
    """A word is parted by no words."""

    def __init__(self):
        Denial.__init__(self, "notparted")


def ring_to_part(word):
    """The word shortened round: what is told if it is not one to be parted."""
    need_word(word, "word")
    need_balanced(word.letters)
    ring = word.shortened_round()
    if ring.length > MOST_PARTED:
        raise TooMany("letters", MOST_PARTED)
    return ring


def parting_of(letters):
    """The letters of x, y and z that part these letters, an even number, as they stand; None if none do."""
    half = len(letters) // 2
    ahead, behind = letters[:half], letters[half:]
    for one in range(half + 1):
        if behind[:one] != contrary_letters(ahead[:one]):
            continue
        for two in range(one, half + 1):
            if behind[one:] == contrary_letters(ahead[one:two]) + contrary_letters(ahead[two:]):
                return (ahead[:one], ahead[one:two], ahead[two:])
    return None


def first_parting(ring):
    """The Parted of the least turn of a balanced word, short round, or the NotParted."""
    # The empty word has one turn, too: 0.
    for turn in range(max(1, ring.length)):
        parts = parting_of(turned_letters(ring.letters, turn))
        if parts is not None:
            x, y, z = [Word(letters) for letters in parts]
            return Parted(turn, x, y, z)
    return NotParted()


def parted(word):
    """A Parted of a balanced word, or the NotParted."""
    return first_parting(ring_to_part(word))

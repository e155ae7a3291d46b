"""What the tests draw, by a fixed rule: each run draws the same."""

from handlerims.rims import Rims
from handlerims.words import Word


class Draws:
    """Numbers, words and rims, one behind the other, told by where it begins."""

    def __init__(self, start):
        self.state = start * 2 + 1

    def below(self, bound):
        """An integer from 0 below the bound."""
        self.state = (self.state * 6364136223846793005 + 1442695040888963407) % 2 ** 64
        return (self.state >> 33) % bound

    def one_of(self, values):
        return values[self.below(len(values))]

    def mixed(self, values):
        """The values in a drawn order."""
        left = list(values)
        return [left.pop(self.below(len(left))) for _ in range(len(left))]

    def letter(self, kinds):
        return self.one_of([1, -1]) * (1 + self.below(kinds))

    def letters(self, most, kinds):
        return [self.letter(kinds) for _ in range(self.below(most + 1))]

    def word(self, most, kinds):
        return Word(self.letters(most, kinds))

    def balanced(self, bands, kinds):
        """Letters, twice as many as bands, each kind as often forward as backward."""
        half = [1 + self.below(kinds) for _ in range(bands)]
        return self.mixed(half + [-kind for kind in half])

    def even(self, bands, kinds):
        """Letters, twice as many as bands, no kind of which is odd."""
        half = [1 + self.below(kinds) for _ in range(bands)]
        return [kind * self.one_of([1, -1]) for kind in self.mixed(half + half)]

    def crossed_mates(self, letters):
        """Mates of these places, of their kinds, each as often as any other."""
        mates = [None] * len(letters)
        for place, letter in enumerate(letters):
            if mates[place] is None:
                free = [at for at in range(place + 1, len(letters))
                        if abs(letters[at]) == abs(letter) and mates[at] is None]
                mates[place] = self.one_of(free)
                mates[mates[place]] = place
        return mates

    def crossed(self, most):
        """Letters with at most so many bands, and mates of a crossed sewing of them; many have none alike."""
        letters = self.even(1 + self.below(most), 1 + self.below(4))
        if self.below(3) == 0:
            letters = self.balanced(1 + self.below(most), 8)
        return letters, self.crossed_mates(letters)

    def rims(self, words, bands, kinds):
        """Rims of so many words, with at least as many letters as words."""
        letters = self.balanced(bands, kinds)
        cuts = sorted(self.mixed(range(1, len(letters)))[:words - 1])
        ends = [0] + cuts + [len(letters)]
        return Rims([Word(letters[ends[at]:ends[at + 1]]) for at in range(words)])

    def mates(self, rims):
        """Mates of the places of rims, each as often as any other."""
        mates = [None] * rims.many
        for place, letter in enumerate(rims.letters):
            if letter > 0:
                free = [at for at in range(rims.many) if rims.letters[at] == -letter and mates[at] is None]
                mates[place] = self.one_of(free)
                mates[mates[place]] = place
        return mates

"""Crossed sewings of a ring: edges of one kind sewn together, either way round."""

from handlerims.errors import BadSewing, BadWord, TooMany
from handlerims.letters import counts_of
from handlerims.mating import all_mates, are_paired, joined
from handlerims.words import is_filled

MOST_CROSSED_LETTERS = 16
MOST_CROSSED = 945


def need_ring(value, part):
    """Raise BadWord unless the value is a Word that is not empty."""
    if not is_filled(value):
        raise BadWord(part)


def need_few_to_cross(word):
    """Raise TooMany if the word has too many letters for its crossed sewings."""
    if word.length > MOST_CROSSED_LETTERS:
        raise TooMany("letters", MOST_CROSSED_LETTERS)


def are_crossed_mates(letters, value):
    """Whether the value is a list that gives each place of these letters another one of its kind as its mate."""
    if not are_paired(value, len(letters)):
        return False
    return all([abs(letters[mate]) == abs(letters[place]) for place, mate in enumerate(value)])


def points_joined(letters, place, mate):
    """The two pairs of points that two mates join; the point behind the last place is 0."""
    many = len(letters)
    behind, mate_behind = (place + 1) % many, (mate + 1) % many
    if letters[place] == letters[mate]:
        return [(place, mate), (behind, mate_behind)]
    return [(place, mate_behind), (behind, mate)]


def points_in_corners(letters, mates):
    """The points, begins of letters, in classes of those that are joined, also by way of others."""
    pairs = []
    for place, mate in enumerate(mates):
        if place < mate:
            pairs.extend(points_joined(letters, place, mate))
    return joined(len(letters), pairs)


def squares_told(bands, corners, has_alike):
    """The squares of a crossed sewing with so many bands and corners."""
    number = bands - corners + 1
    if has_alike or number == 0:
        return number
    # Without mates that are alike these are twice the handles: the first exchange is three squares.
    return number + 1


class CrossSewing:
    """A ring, and for each place its mate, with the same letter or the contrary one."""

    def __init__(self, word, mates):
        need_ring(word, "word")
        if not are_crossed_mates(word.letters, mates):
            raise BadSewing("mates")
        need_few_to_cross(word)
        letters = word.letters
        self.word = word
        self.mates = tuple(mates)
        self.alike = tuple([place for place, mate in enumerate(mates) if letters[mate] == letters[place]])
        self.corners = points_in_corners(letters, mates)
        self.squares = squares_told(word.length // 2, len(self.corners), len(self.alike) > 0)

    def __eq__(self, other):
        return isinstance(other, CrossSewing) and self.word == other.word and self.mates == other.mates


def many_crossed(word):
    """How many crossed sewings a ring has, however many; 0 with an odd kind."""
    need_ring(word, "word")
    many = 1
    for _, count in counts_of(word.letters):
        if count % 2 == 1:
            return 0
        # The first place left has one fewer to choose from than there are; then two are gone.
        for choices in range(1, count, 2):
            many *= choices
    return many


def all_crossed(word):
    """All crossed sewings of a ring, ascending by their mates; none with an odd kind."""
    need_ring(word, "word")
    need_few_to_cross(word)
    many = many_crossed(word)
    if many > MOST_CROSSED:
        raise TooMany("sewings", MOST_CROSSED)
    if many == 0:
        return ()
    kinds = [abs(letter) for letter in word.letters]
    partners = [[mate for mate, other in enumerate(kinds) if other == kind and mate != place]
                for place, kind in enumerate(kinds)]
    return tuple([CrossSewing(word, mates) for mates in all_mates(partners)])


def crossed_census(word):
    """The pairs of squares and of how many crossed sewings of a ring have them, ascending."""
    squares = [sewing.squares for sewing in all_crossed(word)]
    return tuple([(number, squares.count(number)) for number in sorted(set(squares))])

"""Weighings: what two letters count that stand side by side."""

from handlerims.bags import need_bag
from handlerims.checks import MOST_KIND, first_twice, is_integer, is_letter, is_listed
from handlerims.errors import BadText, BadWeighing, Twice
from handlerims.letters import kinds_of
from handlerims.needs import need_integer, need_letter
from handlerims.rims import need_rims
from handlerims.texts import integer_of, integer_text, items_told, letter_of, letter_text
from handlerims.words import need_word

# The greatest stretch that is lesser than its contrary: y z'.
LAST_STRETCH = (MOST_KIND - 1, -MOST_KIND)


def need_weighing(value, part):
    """Raise BadWeighing unless the value is a Weighing."""
    if not isinstance(value, Weighing):
        raise BadWeighing(part)


def is_row(value):
    """Whether the value is a triple of two letters, no contraries, and an integer."""
    if not is_listed(value) or len(value) != 3:
        return False
    first, second, number = value
    return is_letter(first) and is_letter(second) and second != -first and is_integer(number)


def lesser_stretch(first, second):
    """The lesser one, as a pair, of the stretch of two letters and its contrary."""
    return min((first, second), (-second, -first))


def counts_of_rows(rows):
    """What each lesser stretch of the rows counts: Twice for one that was told ahead."""
    counts = {}
    for first, second, number in rows:
        stretch = lesser_stretch(first, second)
        if stretch in counts:
            raise Twice((first, second))
        counts[stretch] = number if stretch == (first, second) else -number
    return counts


def count_of(weighing, first, second):
    """What the stretch of these two letters counts, 0 if they are contraries."""
    if first + second < 0:
        return weighing.counts.get((first, second), 0)
    return -weighing.counts.get((-second, -first), 0)


def row_text(row):
    """The text of a row: two letters and a number."""
    return " ".join([letter_text(row[0]), letter_text(row[1]), integer_text(row[2])])


class Weighing:
    """An integer for each stretch, for the contrary one this integer times -1."""

    def __init__(self, rows):
        if not is_listed(rows) or not all([is_row(row) for row in rows]):
            raise BadWeighing("rows")
        counts = counts_of_rows(rows)
        self.counts = {stretch: counts[stretch] for stretch in counts if counts[stretch] != 0}
        self.rows = tuple(sorted([(first, second, self.counts[first, second]) for first, second in self.counts]))
        self.kinds = kinds_of([letter for row in self.rows for letter in row[:2]])

    def __eq__(self, other):
        return isinstance(other, Weighing) and self.rows == other.rows

    def __str__(self):
        if not self.rows:
            return "-"
        return " / ".join([row_text(row) for row in self.rows])

    def at(self, first, second):
        """What the stretch of these two letters counts."""
        need_letter(first)
        need_letter(second)
        return count_of(self, first, second)

    def times(self, number):
        """The Weighing that counts so many times as much."""
        need_integer(number, "number")
        return Weighing([(first, second, count * number) for first, second, count in self.rows])

    def added(self, other):
        """The Weighing of what both count together."""
        need_weighing(other, "other")
        stretches = sorted(set([row[:2] for row in self.rows + other.rows]))
        return Weighing([(first, second, count_of(self, first, second) + count_of(other, first, second))
                         for first, second in stretches])

    @staticmethod
    def read(text):
        """The Weighing whose text this is."""
        items = items_told(text)
        return Weighing(rows_of(items) if items else [])


def last_behind(letter):
    """The greatest letter behind this one, not z, in a lesser stretch."""
    return -letter - 1 if letter < -1 or letter > 0 else -1


def can_begin(letter, last):
    """Whether a row can begin with the letter behind the last stretch."""
    return letter is not None and letter < MOST_KIND and (letter, last_behind(letter)) > last


def can_follow(letter, first, last):
    """Whether a row that begins so can have this second letter behind the last stretch."""
    return letter is not None and first + letter < 0 and (first, letter) > last


def rows_of(items):
    """The rows that the items tell, ascending, each by the lesser stretch, none that counts 0."""
    rows = []
    # No stretch is as little as this: in the first row all can stand.
    first, last = 0, (-MOST_KIND - 1, 0)
    for at, item in enumerate(items):
        letter, number = letter_of(item), integer_of(item)
        if at % 4 == 0 and can_begin(letter, last):
            first = letter
        elif at % 4 == 1 and can_follow(letter, first, last):
            last = (first, letter)
        elif at % 4 == 2 and number is not None and number != 0:
            rows.append(last + (number,))
        elif at % 4 != 3 or item != "/" or last == LAST_STRETCH:
            raise BadText(0, at)
    if len(items) % 4 != 3:
        raise BadText(0, len(items))
    return rows


def need_slope_pairs(pairs):
    """Raise what is told for pairs that are not some letters, each once, and integers."""
    if not is_listed(pairs) or not all([is_listed(pair) and len(pair) == 2 for pair in pairs]):
        raise BadWeighing("pairs")
    if not all([is_letter(letter) and is_integer(number) for letter, number in pairs]):
        raise BadWeighing("pairs")
    again = first_twice([letter for letter, _ in pairs])
    if again is not None:
        raise Twice(again)


def slope(pairs):
    """The Weighing that counts the integer of the second letter less that of the contrary of the first."""
    need_slope_pairs(pairs)
    worths = {}
    for letter, number in pairs:
        worths[letter] = number
        worths.setdefault(-letter, 0)
    return Weighing([(first, second, worths[second] - worths[-first]) for first in worths for second in worths
                     if first + second < 0])


def counted_along(weighing, letters):
    """What all neighbours of the letters, not read round, count together."""
    return sum([count_of(weighing, first, second) for first, second in zip(letters, letters[1:])])


def value_of(weighing, word):
    """The value of the word as it stands, not read round."""
    need_weighing(weighing, "weighing")
    need_word(word, "word")
    return counted_along(weighing, word.letters)


def value_round(weighing, rims):
    """The value of the rims: what each place and its next count, all together."""
    need_weighing(weighing, "weighing")
    need_rims(rims, "rims")
    return sum([counted_along(weighing, word.letters + word.letters[:1]) for word in rims.words])


def walk_value(weighing, letters):
    """What a walk through these letters counts once round: each step the contrary of a letter, and the next letter."""
    return sum([count_of(weighing, -letter, behind) for letter, behind in zip(letters, letters[1:] + letters[:1])])


def walk_values(weighing, bag):
    """The tuple of what each walk of the bag counts, once round."""
    need_weighing(weighing, "weighing")
    need_bag(bag, "bag")
    letters = bag.rims.letters
    return tuple([walk_value(weighing, [letters[place] for place in walk]) for walk, _ in bag.walks])

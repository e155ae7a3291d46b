"""Words spelled by exchanges, as few as they have handles."""

from handlerims.errors import TooMany
from handlerims.handles import handles_of
from handlerims.letters import contrary_letters, ends_and_ring, exchange_letters, replaced_letters
from handlerims.mating import mates_among
from handlerims.needs import need_within
from handlerims.rims import Rims
from handlerims.sewings import Sewing, need_ring_sewing
from handlerims.spellings import Spelling, moved, spelling_of
from handlerims.words import Word, need_word

MOST_SPELLED = 100
MOST_ROUNDS = 12
MOST_IN_ROUNDS = 5


def crossing_of(mates):
    """The least two places that lie across one another: the mate of the first is between the second and its mate."""
    for one, end in enumerate(mates):
        for other in range(one + 1, end):
            if mates[other] > end:
                return (one, other)
    return None


def exchange_at(letters, mates, one, other):
    """The two words, as tuples of letters, whose exchange is taken off at a crossing, and the places left behind it.

    The ring is A x B y C x' D y' E: the exchange of A x C' D' A' and A D C B y D' A', and then A D C B E.
    """
    end, last = mates[one], mates[other]
    ahead, between = letters[:one], letters[one + 1:other]
    third, fourth = letters[other + 1:end], letters[end + 1:last]
    back = contrary_letters(fourth) + contrary_letters(ahead)
    row = (ahead + (letters[one],) + contrary_letters(third) + back,
           ahead + fourth + third + between + (letters[other],) + back)
    places = list(range(len(letters)))
    left = places[:one] + places[end + 1:last] + places[other + 1:end] + places[one + 1:other] + places[last + 1:]
    return (row, left)


def rows_of_ring(letters, mates):
    """The pairs of tuples of letters whose exchanges spell the ring, one for each handle of the sewing."""
    rows = []
    crossing = crossing_of(mates)
    while crossing is not None:
        row, left = exchange_at(letters, mates, crossing[0], crossing[1])
        rows.append(row)
        letters, mates = tuple([letters[place] for place in left]), mates_among(mates, left)
        crossing = crossing_of(mates)
    return rows


def spelled(sewing):
    """The Spelling of the one ring of a Sewing, by as many pairs as it has handles."""
    need_ring_sewing(sewing, "sewing")
    return spelling_of(rows_of_ring(sewing.rims.letters, sewing.mates))


def spelled_word(word):
    """The Spelling of a balanced word, by as many pairs as the word has handles."""
    found = handles_of(word)
    short = word.shortened()
    if short.length > MOST_SPELLED:
        raise TooMany("letters", MOST_SPELLED)
    if found.number == 0:
        return Spelling(())
    ends, _ = ends_and_ring(short.letters)
    return moved(spelled(Sewing(Rims([found.ring]), found.mates)), Word(ends))


def odd_rounds(times):
    """The letters of an odd number of rounds of a b a' b', and mates that have (times + 1) / 2 handles."""
    mates = [0] * (4 * times)
    for count in range(times):
        # The a of this round and the a' of round -count, its b and the b' half of the rounds on.
        for place, mate in ((4 * count, 4 * (-count % times) + 2),
                            (4 * count + 1, 4 * ((count + times // 2) % times) + 3)):
            mates[place], mates[mate] = mate, place
    return ((1, 2, -1, -2) * times, mates)


def need_few_in_rounds(word):
    """Raise TooMany if the word has more letters than rounds are spelled of."""
    if word.length > MOST_IN_ROUNDS:
        raise TooMany("letters", MOST_IN_ROUNDS)


def rounds_spelled(one, other, times):
    """The Spelling of so many rounds of the exchange of two words, by times // 2 + 1 pairs."""
    need_word(one, "one")
    need_word(other, "other")
    need_within(times, 0, MOST_ROUNDS, "times")
    need_few_in_rounds(one)
    need_few_in_rounds(other)
    if times == 0:
        return Spelling(())
    letters, mates = odd_rounds(times - 1 + times % 2)
    rows = rows_of_ring(letters, mates)
    if times % 2 == 0:
        rows.append(((1,), (2,)))
    worths = {1: one.letters, -1: contrary_letters(one.letters), 2: other.letters, -2: contrary_letters(other.letters)}
    return spelling_of([[replaced_letters(part, worths) for part in row] for row in rows])

"""Sewings of the exchanges of pairs of words, and sewings tightened."""

from handlerims.errors import Misfit
from handlerims.exchanged import without_pair
from handlerims.rims import Rims, need_few_places
from handlerims.sewings import Sewing, need_ring_sewing
from handlerims.spellings import need_word_pairs
from handlerims.words import Word, is_filled


def words_of_exchanges(pairs):
    """The words x, y, x', y' of each pair, one behind the other."""
    return [word for x, y in pairs for word in (x, y, x.contrary(), y.contrary())]


def mates_of_exchanges(words):
    """The mates in the ring of these words, each of which has its contrary two words on or two words back."""
    starts = [0]
    for word in words:
        starts.append(starts[-1] + word.length)
    mates = []
    for at, word in enumerate(words):
        behind = at + 2 if at % 4 < 2 else at - 2
        mates.extend([starts[behind + 1] - 1 - place for place in range(word.length)])
    return mates


def sewing_of(pairs):
    """The Sewing of the ring of the exchanges of these pairs, as they stand."""
    need_word_pairs(pairs, "pairs")
    if not pairs or not all([is_filled(word) for pair in pairs for word in pair]):
        raise Misfit("empty")
    need_few_places(sum([2 * word.length for pair in pairs for word in pair]))
    words = words_of_exchanges(pairs)
    letters = [letter for word in words for letter in word.letters]
    return Sewing(Rims([Word(letters)]), mates_of_exchanges(words))


def place_to_tighten(rims):
    """The least place whose next has the contrary letter, None if there is none."""
    for place, behind in enumerate(rims.nexts):
        if rims.letters[place] == -rims.letters[behind]:
            return place
    return None


def tightened(sewing):
    """The Sewing of one ring without neighbours that are contraries, None if nothing is left."""
    need_ring_sewing(sewing, "sewing")
    place = place_to_tighten(sewing.rims)
    while place is not None:
        if sewing.rims.many == 2:
            return None
        sewing = without_pair(sewing, place)
        place = place_to_tighten(sewing.rims)
    return sewing

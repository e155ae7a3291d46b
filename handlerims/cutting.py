"""Sewings with a band put in or taken out, rims cut or put together."""

from handlerims.errors import Misfit, TooMany, Twice
from handlerims.mating import mates_among
from handlerims.needs import need_kind
from handlerims.rims import MOST_WORDS, Rims, need_place
from handlerims.rings import need_two_words
from handlerims.sewings import Sewing, need_sewing
from handlerims.words import Word


def need_new_kind(kind, letters):
    """Raise what is told unless this is a kind that stands in none of the letters."""
    need_kind(kind, "kind")
    if kind in letters or -kind in letters:
        raise Twice(kind)


def banded(one, other, kind):
    """The ring of the one, the letter kind, the other, and the contrary of this letter."""
    need_two_words(one, other)
    need_new_kind(kind, one.letters + other.letters)
    if one.length == 0 or other.length == 0:
        raise Misfit("empty")
    return Word(one.letters + (kind,) + other.letters + (-kind,))


def banded_sewing(sewing, kind):
    """The Sewing of the ring of its two rims, banded."""
    need_sewing(sewing, "sewing")
    need_new_kind(kind, sewing.rims.letters)
    if len(sewing.rims.words) != 2:
        raise Misfit("rims")
    one, other = sewing.rims.words
    rims = Rims([banded(one, other, kind)])
    here = one.length
    mates = [mate if mate < here else mate + 1 for mate in sewing.mates]
    return Sewing(rims, mates[:here] + [rims.many - 1] + mates[here:] + [here])


def places_from(rims, place):
    """The places of a rim, from this one on, round."""
    places = [place]
    behind = rims.nexts[place]
    while behind != place:
        places.append(behind)
        behind = rims.nexts[behind]
    return places


def resewn(sewing, olds, rows):
    """The Sewing with new rims, rows of old places, in the place of the old rims with these numbers."""
    rims = sewing.rims
    if len(rims.words) - len(set(olds)) + len(rows) > MOST_WORDS:
        raise TooMany("words", MOST_WORDS)
    kept = []
    for home in range(len(rims.words)):
        if home == min(olds):
            kept.extend(rows)
        elif home not in olds:
            kept.append(places_from(rims, rims.homes.index(home)))
    words = [Word([rims.letters[place] for place in row]) for row in kept]
    return Sewing(Rims(words), mates_among(sewing.mates, [place for row in kept for place in row]))


def unbanded(sewing, place):
    """The Sewing without the band of this place and its mate."""
    need_sewing(sewing, "sewing")
    rims = sewing.rims
    need_place(rims, place)
    mate = sewing.mates[place]
    olds = (rims.homes[place], rims.homes[mate])
    ahead = places_from(rims, place)[1:]
    if olds[0] == olds[1]:
        at = ahead.index(mate)
        rows = [ahead[:at], ahead[at + 1:]]
    else:
        rows = [ahead + places_from(rims, mate)[1:]]
    if [] in rows:
        raise Misfit("empty")
    return resewn(sewing, olds, rows)


def cut(sewing, place, other):
    """The Sewing cut ahead of two places: of one rim come two, two rims are put together."""
    need_sewing(sewing, "sewing")
    rims = sewing.rims
    need_place(rims, place)
    need_place(rims, other)
    if place == other:
        raise Twice(other)
    olds = (rims.homes[place], rims.homes[other])
    ahead = places_from(rims, place)
    if olds[0] == olds[1]:
        at = ahead.index(other)
        rows = [ahead[:at], ahead[at:]]
    else:
        rows = [ahead + places_from(rims, other)]
    return resewn(sewing, olds, rows)

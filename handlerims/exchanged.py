"""Sewings that come of other ones: mates exchanged, two letters put in or taken out."""

from handlerims.errors import Misfit, Twice
from handlerims.mating import mates_among
from handlerims.needs import need_letter
from handlerims.papers import Paper
from handlerims.rims import need_place, rims_from
from handlerims.sewings import Sewing, need_sewing


class Way(Paper):
    """Pairs of places that exchange mates, one pair after the other."""

    def __init__(self, pairs):
        Paper.__init__(self, "way", pairs)
        self.pairs = self.parts[0]


def mates_exchanged(mates, place, other):
    """The mates when the two places, of one letter, give each other theirs."""
    changed = list(mates)
    changed[place], changed[other] = mates[other], mates[place]
    changed[mates[place]], changed[mates[other]] = other, place
    return changed


def exchanged(sewing, place, other):
    """The Sewing in which these two places exchange mates."""
    need_sewing(sewing, "sewing")
    need_place(sewing.rims, place)
    need_place(sewing.rims, other)
    if place == other:
        raise Twice(other)
    if sewing.rims.letters[place] != sewing.rims.letters[other]:
        raise Misfit("letters")
    return Sewing(sewing.rims, mates_exchanged(sewing.mates, place, other))


def need_like_sewings(sewing, other):
    """Raise what is told unless both are Sewings of equal rims."""
    need_sewing(sewing, "sewing")
    need_sewing(other, "other")
    if sewing.rims != other.rims:
        raise Misfit("rims")


def way(sewing, other):
    """The Way that gives each place that runs forward, ascending, the mate it has in other."""
    need_like_sewings(sewing, other)
    mates = sewing.mates
    pairs = []
    for place, letter in enumerate(sewing.rims.letters):
        wanted = other.mates[place]
        if letter > 0 and mates[place] != wanted:
            pairs.append((place, mates[wanted]))
            mates = mates_exchanged(mates, place, mates[wanted])
    return Way(pairs)


def way_between(sewing, other):
    """The Sewings on the way from the one to the other, both told, too."""
    sewings = [sewing]
    for place, holder in way(sewing, other).pairs:
        sewings.append(exchanged(sewings[-1], place, holder))
    return tuple(sewings)


def with_pair(sewing, place, letter):
    """The Sewing with this letter and its contrary, as mates, put in ahead of the place."""
    need_sewing(sewing, "sewing")
    rims = sewing.rims
    need_place(rims, place)
    need_letter(letter)
    home = rims.homes[place]
    letters = rims.letters[:place] + (letter, -letter) + rims.letters[place:]
    homes = rims.homes[:place] + (home, home) + rims.homes[place:]
    moved = [mate if mate < place else mate + 2 for mate in sewing.mates]
    return Sewing(rims_from(letters, homes), moved[:place] + [place + 1, place] + moved[place:])


def without_pair(sewing, place):
    """The Sewing without the place and its next, their mates being mates then."""
    need_sewing(sewing, "sewing")
    rims = sewing.rims
    need_place(rims, place)
    behind = rims.nexts[place]
    if rims.letters[place] != -rims.letters[behind]:
        raise Misfit("letters")
    if rims.words[rims.homes[place]].length == 2:
        raise Misfit("empty")
    mates = list(sewing.mates)
    # If the two are mates themselves, this only writes what goes with them.
    mates[sewing.mates[place]], mates[sewing.mates[behind]] = sewing.mates[behind], sewing.mates[place]
    kept = [one for one in range(rims.many) if one not in (place, behind)]
    letters = [rims.letters[one] for one in kept]
    homes = [rims.homes[one] for one in kept]
    return Sewing(rims_from(letters, homes), mates_among(mates, kept))

"""Tubes: two rims of which the one is the contrary of the other, turned."""

from handlerims.errors import Misfit
from handlerims.papers import Denial, Paper
from handlerims.rims import need_rims
from handlerims.rings import need_two_words, turn_to


class Tube(Paper):
    """The least place at which the contrary of the one begins to be the other, both shortened round."""

    def __init__(self, turn):
        Paper.__init__(self, "tube", turn)
        self.turn = self.parts[0]


class NoTube(Denial):
    """Two words are no rims of a tube."""

    def __init__(self):
        Denial.__init__(self, "notube")


def tube(one, other):
    """The Tube of two words, or the NoTube."""
    need_two_words(one, other)
    here, there = one.shortened_round(), other.shortened_round()
    if here.length == 0 or there.length == 0:
        raise Misfit("empty")
    turn = turn_to(here.contrary(), there)
    return NoTube() if turn is None else Tube(turn)


def first_tube(words, rim, others):
    """The rim, the first one of the others with which it is rims of a tube, and the turn; None without such."""
    for other in others:
        found = tube(words[rim], words[other])
        if found:
            return (rim, other, found.turn)
    return None


def tubes_of(rims):
    """The rims two by two, each two rims of a tube, with the turns; None if they do not go so."""
    need_rims(rims, "rims")
    if not rims.is_short:
        raise Misfit("short")
    triples = []
    left = list(range(len(rims.words)))
    while left:
        triple = first_tube(rims.words, left[0], left[1:])
        if triple is None:
            return None
        triples.append(triple)
        left = [rim for rim in left if rim not in triple[:2]]
    return tuple(triples)

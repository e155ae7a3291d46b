"""Steps of rims, and the walks that come to no place twice."""

from handlerims.errors import TooMany
from handlerims.rims import need_rims

MOST_WALKED = 10
MOST_WALKS = 500


def steps_of(rims):
    """The triples (place, mate, next of mate), ascending, for each two places with contrary letters."""
    need_rims(rims, "rims")
    letters = rims.letters
    return tuple([(place, mate, rims.nexts[mate]) for place, letter in enumerate(letters)
                  for mate, other in enumerate(letters) if other == -letter])


def targets_of(rims):
    """For each place the places, ascending, to which a step leads from it."""
    targets = [[] for _ in range(rims.many)]
    for place, _, behind in steps_of(rims):
        targets[place].append(behind)
    return [sorted(row) for row in targets]


def fill_walks(targets, walk, most, found):
    """Add to found, ascending, the simple walks that begin so, at their least place, until there are more than most."""
    for place in targets[walk[-1]]:
        if len(found) > most:
            return
        if place == walk[0]:
            found.append(tuple(walk))
        elif place > walk[0] and place not in walk:
            fill_walks(targets, walk + [place], most, found)


def walks_within(rims, most):
    """All simple walks of the rims, ascending: TooMany for more than most of them."""
    need_rims(rims, "rims")
    if rims.many > MOST_WALKED:
        raise TooMany("letters", MOST_WALKED)
    targets = targets_of(rims)
    found = []
    for start in range(rims.many):
        fill_walks(targets, [start], most, found)
    if len(found) > most:
        raise TooMany("walks", most)
    return tuple(found)


def simple_walks(rims):
    """All walks that come to no place twice, each from its least place on, ascending."""
    return walks_within(rims, MOST_WALKS)

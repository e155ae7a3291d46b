"""Places given mates, two by two, and what is joined by that."""

from handlerims.checks import are_integers


def are_paired(value, many):
    """Whether the value is a list that gives each place below many another one, whose mate it is."""
    if not are_integers(value) or len(value) != many:
        return False
    for place, mate in enumerate(value):
        if not 0 <= mate < many or mate == place or value[mate] != place:
            return False
    return True


def fill_mates(partners, mates, found):
    """Add to found, ascending, all ways to give mates, out of its partners, to each place that has None."""
    if None not in mates:
        found.append(tuple(mates))
        return
    place = mates.index(None)
    for mate in partners[place]:
        if mates[mate] is None:
            more = list(mates)
            more[place], more[mate] = mate, place
            fill_mates(partners, more, found)


def all_mates(partners):
    """All ways, ascending, to give each place a mate out of its partners, told ascending, place by place."""
    found = []
    fill_mates(partners, [None] * len(partners), found)
    return found


def mates_among(mates, places):
    """The mates of these places, all of them among these places, told by where they stand there."""
    stands = {place: at for at, place in enumerate(places)}
    return [stands[mates[place]] for place in places]


def joined(many, pairs):
    """The ascending tuples, ascending, of the numbers below many that the pairs join, also by way of others."""
    # Each number leads to a lesser one that is joined to it, or to itself where none is known.
    above = list(range(many))
    for one, other in pairs:
        while above[one] != one:
            one = above[one]
        while above[other] != other:
            other = above[other]
        above[max(one, other)] = min(one, other)
    rows = {}
    for at in range(many):
        # Lesser ones lead straight to the least one by now.
        above[at] = above[above[at]]
        rows.setdefault(above[at], []).append(at)
    return tuple([tuple(row) for row in rows.values()])

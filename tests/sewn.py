"""Second ways of reckoning sewings, plain and crossed: by mates put in all orders, by joined points, and by bands
that lie across one another."""

from itertools import permutations, product


def all_mates(letters):
    """The mates of all sewings, ascending: for each kind, backward places in all orders given to the forward ones."""
    kinds = sorted({abs(letter) for letter in letters})
    choices = []
    for kind in kinds:
        ahead = [place for place, letter in enumerate(letters) if letter == kind]
        back = [place for place, letter in enumerate(letters) if letter == -kind]
        choices.append([list(zip(ahead, order)) for order in permutations(back)])
    found = []
    for choice in product(*choices):
        mates = [None] * len(letters)
        for pairs in choice:
            for one, other in pairs:
                mates[one], mates[other] = other, one
        found.append(tuple(mates))
    return sorted(found)


def joined(many, pairs):
    """The classes of the numbers below many when those of each pair are in one."""
    above = list(range(many))

    def top(at):
        while above[at] != at:
            at = above[at]
        return at
    for one, other in pairs:
        above[top(one)] = top(other)
    classes = {}
    for at in range(many):
        classes.setdefault(top(at), []).append(at)
    return sorted(classes.values())


def next_places(words):
    """The next of each place, told by the lengths of the words alone."""
    found = []
    for word in words:
        first = len(found)
        found += list(range(first + 1, first + len(word))) + [first]
    return found


def cost_of(words, mates):
    """Bands less corners: the begin of a place is sewn to the end of its mate, the begin of the next of that."""
    behind = next_places(words)
    return len(mates) // 2 - len(joined(len(mates), [(place, behind[mate]) for place, mate in enumerate(mates)]))


def pieces_of(words, mates):
    homes = [home for home, word in enumerate(words) for _ in range(len(word))]
    return joined(len(words), [(homes[place], homes[mate]) for place, mate in enumerate(mates)])


def rank_by_two(rows):
    """The rank of a table of bits, its rows told as integers."""
    rank, left = 0, list(rows)
    while left:
        row = left.pop()
        if row:
            rank += 1
            low = row & -row
            left = [one ^ row if one & low else one for one in left]
    return rank


def ring_handles(mates):
    """The handles of a sewing of one ring: half the rank of the table that tells which bands lie across."""
    bands = [(place, mate) for place, mate in enumerate(mates) if place < mate]
    rows = []
    for one, end in bands:
        rows.append(sum(1 << at for at, (two, last) in enumerate(bands) if (one < two < end) != (one < last < end)
                        and (two, last) != (one, end)))
    return rank_by_two(rows) // 2


def fewest_ring_handles(letters):
    return min(ring_handles(mates) for mates in all_mates(letters))


def pairings(places):
    """All ways to pair the places two by two: the last one with each of the others."""
    if not places:
        return [[]]
    last, others = places[-1], places[:-1]
    found = []
    for at, other in enumerate(others):
        found += [[(other, last)] + rest for rest in pairings(others[:at] + others[at + 1:])]
    return found


def all_crossed_mates(letters):
    """The mates of all crossed sewings of a ring, ascending."""
    kinds = sorted({abs(letter) for letter in letters})
    choices = []
    for kind in kinds:
        places = [place for place, letter in enumerate(letters) if abs(letter) == kind]
        choices.append(pairings(places) if len(places) % 2 == 0 else [])
    found = []
    for choice in product(*choices):
        mates = [None] * len(letters)
        for one, other in [pair for pairs in choice for pair in pairs]:
            mates[one], mates[other] = other, one
        found.append(tuple(mates))
    return sorted(found)


def crossed_corners(letters, mates):
    """The points in classes: the begin and the end of each letter, joined as its mate runs."""
    many = len(letters)
    pairs = []
    for place, mate in enumerate(mates):
        here, there = (place, (place + 1) % many), (mate, (mate + 1) % many)
        pairs += zip(here, there if letters[place] == letters[mate] else there[::-1])
    return joined(many, pairs)


def crossed_squares(letters, mates):
    """The squares of a crossed sewing: the rank of the table of bands across, alike mates across themselves, too."""
    bands = [(place, mate) for place, mate in enumerate(mates) if place < mate]
    alike = [letters[place] == letters[mate] for place, mate in bands]
    rows = []
    for at, (one, end) in enumerate(bands):
        row = sum(1 << other for other, (two, last) in enumerate(bands)
                  if other != at and (one < two < end) != (one < last < end))
        rows.append(row | (1 << at if alike[at] else 0))
    rank = rank_by_two(rows)
    return rank if any(alike) or rank == 0 else rank + 1


def fewest_squares(letters):
    """The squares of letters shortened round, of all crossed sewings made another way."""
    return min(crossed_squares(letters, mates) for mates in all_crossed_mates(letters)) if letters else 0

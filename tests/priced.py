"""Second ways of reckoning walks, weights and prices: by the next places alone, walk by walk."""

from fractions import Fraction

from tests import sewn


def steps_by_hand(rims):
    """The steps: from each place to what stands behind each contrary letter."""
    behind = sewn.next_places(rims.words)
    letters = [letter for word in rims.words for letter in word.letters]
    return sorted((one, two, behind[two]) for two in range(len(letters)) for one in range(len(letters))
                  if letters[one] + letters[two] == 0)


def walks_by_hand(rims):
    """All walks that come to no place twice: found from each of their places, told from the least one."""
    onward = {}
    for place, _, behind in steps_by_hand(rims):
        onward.setdefault(place, []).append(behind)
    found = set()
    rows = [(place,) for place in range(rims.many)]
    while rows:
        longer = []
        for row in rows:
            for place in onward[row[-1]]:
                if place == row[0]:
                    least = row.index(min(row))
                    found.add(row[least:] + row[:least])
                elif place not in row:
                    longer.append(row + (place,))
        rows = longer
    return sorted(found)


def weigh_walk(rims, numbers, walk):
    """What the steps of a walk add up to, numbers being told in the order of the steps."""
    worth = {(one, behind): number for (one, _, behind), number in zip(steps_by_hand(rims), numbers)}
    return sum(worth[one, walk[(at + 1) % len(walk)]] for at, one in enumerate(walk))


def lightest_by_hand(rims, numbers, walks=None):
    least = min(weigh_walk(rims, numbers, walk) for walk in walks or walks_by_hand(rims))
    return least if least >= 0 else None


def lightest_by_lengths(rims, numbers):
    """The same by the least ways of one step, of two, and so on, up to as many as places: for many letters."""
    many = rims.many
    onward = [[] for _ in range(many)]
    for (one, _, behind), number in zip(steps_by_hand(rims), numbers):
        onward[one].append((behind, number))
    least = None
    for start in range(many):
        ways = {start: 0}
        for _ in range(many):
            longer = {}
            for place, way in ways.items():
                for behind, number in onward[place]:
                    longer[behind] = min(longer.get(behind, way + number), way + number)
            ways = longer
            if start in ways:
                least = ways[start] if least is None else min(least, ways[start])
    return least if least >= 0 else None


def bands_covered(rims, worths, numbers):
    """Whether the two steps by each two places weigh at most their worths."""
    weight = {(one, two): number for (one, two, _), number in zip(steps_by_hand(rims), numbers)}
    return all(weight[one, two] + weight[two, one] <= worths[one] + worths[two] for one, two in weight)


def are_right(rims, weights):
    """Whether Weights are right, all walks gone through."""
    least = lightest_by_hand(rims, weights.steps)
    return weights.by > 0 and bands_covered(rims, weights.worths, weights.steps) and (
        least is not None and least >= weights.by)


def bound_by_hand(rims, weights):
    return (Fraction(rims.many, 2) - Fraction(sum(weights.worths), weights.by)) / 2


def bag_price_by_hand(rims, walks):
    """The price of a bag, counted by its own steps; None if it is no bag."""
    behind = sewn.next_places(rims.words)
    counts, total = {}, 0
    for walk, number in walks:
        total += number
        for at, place in enumerate(walk):
            mate = behind.index(walk[(at + 1) % len(walk)])
            counts[place, mate] = counts.get((place, mate), 0) + number
    letters = rims.letters
    if any(letters[one] != -letters[two] or counts.get((two, one)) != many for (one, two), many in counts.items()):
        return None
    copies = [sum(many for (one, _), many in counts.items() if one == place) for place in range(rims.many)]
    if len(set(copies)) > 1:
        return None
    return Fraction(sum(counts.values()) - 2 * total, 4 * copies[0])


def told(pair):
    return (pair.numerator, pair.denominator)

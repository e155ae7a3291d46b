"""Second ways of reckoning weighings: by tables of all stretches, told both ways."""

from itertools import product

LETTERS = [sign * kind for kind in range(1, 27) for sign in (1, -1)]


def all_letters(kinds):
    return [sign * kind for kind in kinds for sign in (1, -1)]


def table_of(rows):
    """What each stretch counts, told both ways about; what is not in it counts 0."""
    table = {}
    for first, second, number in rows:
        table[first, second] = number
        table[-second, -first] = -number
    return table


def along(table, letters):
    return sum(table.get((letters[at], letters[at + 1]), 0) for at in range(len(letters) - 1))


def value_by_hand(table, rims):
    """The value of rims, word by word, from the last letter to the first, too."""
    return sum(table.get((word.letters[at - 1], word.letters[at]), 0) for word in rims.words
               for at in range(len(word.letters)))


def walk_by_hand(table, rims, walk):
    letters = [rims.letters[place] for place in walk]
    return sum(table.get((-letters[at - 1], letters[at]), 0) for at in range(len(letters)))


def three_by_hand(table, x, y, z):
    return sum(table.get(pair, 0) for pair in ((-x, y), (-y, z), (-z, x)))


def mistake_by_hand(table, kinds):
    """The greatest of all threes, all of them gone through."""
    return max(three_by_hand(table, *three) for three in product(all_letters(kinds), repeat=3))


def order_table(order):
    """The turning of an order: from the contrary of the first letter on, step by step to the second one."""
    many = len(order)
    table = {}
    for x, y in product(order, order):
        if y != -x:
            at, steps = order.index(-x), 0
            while order[at] != y:
                at = 0 if at + 1 == many else at + 1
                steps += 1
            table[x, y] = many - 2 * steps
    return table


def drawn_rows(draws, kinds, many, most=20):
    """Rows of unlike stretches, some told by the contrary one, some that count 0."""
    letters = all_letters(kinds)
    rows, seen = [], set()
    for _ in range(many):
        first, second = draws.one_of(letters), draws.one_of(letters)
        if second != -first and (first, second) not in seen:
            seen.update([(first, second), (-second, -first)])
            rows.append((first, second, draws.below(2 * most + 1) - most))
    return rows

"""A second way to tell words that shorten to the same: tables of four integers, multiplied.

The tables of a and b freely make all that they make (Sanov); so do those of b between times of a and
as many of its contrary, one for each kind. So two words shorten to the same exactly if their products are equal.
"""

A, BACK_A = (1, 2, 0, 1), (1, -2, 0, 1)
B, BACK_B = (1, 0, 2, 1), (1, 0, -2, 1)


def multiplied(one, other):
    a, b, c, d = one
    e, f, g, h = other
    return (a * e + b * g, a * f + b * h, c * e + d * g, c * f + d * h)


def table_of(letter):
    ahead = behind = (1, 0, 0, 1)
    for _ in range(abs(letter)):
        ahead, behind = multiplied(ahead, A), multiplied(behind, BACK_A)
    return multiplied(multiplied(ahead, B if letter > 0 else BACK_B), behind)


def product(letters):
    """The product of the tables of the letters."""
    made = (1, 0, 0, 1)
    for letter in letters:
        made = multiplied(made, table_of(letter))
    return made

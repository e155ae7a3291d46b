import unittest
from fractions import Fraction

from handlerims.equations import Equations
from tests.draws import Draws


def solved(columns, sums, first):
    """The most, the numbers, and what each equation is worth, as fractions."""
    table = Equations(columns, sums)
    table.begin(first)
    table.improve()
    numbers = [Fraction(0)] * len(columns)
    for at, number in table.solution():
        numbers[at] = Fraction(number, table.unit)
    return numbers, [Fraction(worth, table.unit) for worth in table.sum_worths()]


def dotted(one, other):
    return sum(left * right for left, right in zip(one, other))


class Most(unittest.TestCase):
    def test_told_ones(self):
        # x + y + z is 6, y and twice z are 4: z 0, y 4, x 2 or z 2, y 0, x 4.
        numbers, worths = solved([[1, 0], [1, 1], [1, 2]], [6, 4], [0, 1])
        self.assertEqual((sum(numbers), dotted(worths, [6, 4])), (6, 6))
        # Three numbers, each two of them 1 together: one half each.
        numbers, worths = solved([[1, 1, 0, 1, 0, 0], [1, 0, 1, 0, 1, 0], [0, 1, 1, 0, 0, 1], [0, 0, 0, 1, 0, 0],
                                  [0, 0, 0, 0, 1, 0], [0, 0, 0, 0, 0, 1]], [1, 1, 1, 1, 1, 1], [0, 4, 5])
        self.assertEqual(sum(numbers), 3)

    def test_equations_that_tell_nothing_more(self):
        columns = [[1, 2, 0, 3], [1, 2, 0, 3], [0, 0, 0, 0]]
        for first in ([0], [1]):
            table = Equations(columns[:2], [2, 4, 0, 6])
            table.begin(first)
            self.assertEqual(len(table.rows), 1)
            table.improve()
            self.assertEqual(table.solution(), [(first[0], 2)])

    def test_drawn_ones_by_numbers_and_worths_that_meet(self):
        draws = Draws(830)
        for _ in range(200):
            many, kinds = 2 + draws.below(6), 1 + draws.below(4)
            # The first equation has each number, so that none can grow for ever.
            columns = [[1] + [draws.below(7) - 3 for _ in range(kinds)] for _ in range(many)]
            first = [draws.below(many)]
            start = [draws.below(3) if at in first else 0 for at in range(many)]
            sums = [dotted(start, [column[at] for column in columns]) for at in range(kinds + 1)]
            numbers, worths = solved(columns, sums, first)
            self.assertTrue(all(number >= 0 for number in numbers))
            for at, total in enumerate(sums):
                self.assertEqual(dotted(numbers, [column[at] for column in columns]), total)
            self.assertTrue(all(dotted(worths, column) >= 1 for column in columns))
            self.assertEqual(sum(numbers), dotted(worths, sums))

"""The facts of [12] about turnings, on drawn orders and rims, by second ways of reckoning."""

import unittest
from fractions import Fraction
from itertools import permutations

from handlerims.mistakes import bar, mistake_of, three_of
from handlerims.turnings import best_turning, turning
from handlerims.weighings import Weighing, value_round
from tests.draws import Draws
from tests.test_price import priced, short_rims
from tests.weighed import all_letters, order_table, three_by_hand


def drawn_order(draws, kinds):
    return draws.mixed(all_letters(draws.mixed(range(1, 27))[:kinds]))


class Threes(unittest.TestCase):
    def test_of_unlike_letters_it_is_all_round_or_back(self):
        draws = Draws(940)
        for count in range(40):
            order = drawn_order(draws, 2 + count % 3)
            made, table, many = turning(order), order_table(order), len(order)
            for x, y, z in permutations(order, 3):
                # Some ways round: from x to y, on to z, and back to x.
                ways = [(order.index(there) - order.index(here)) % many for here, there in ((x, y), (y, z), (z, x))]
                self.assertIn(sum(ways), (many, 2 * many))
                self.assertEqual(three_of(made, x, y, z), 3 * many - 2 * sum(ways))
                self.assertIn(three_by_hand(table, x, y, z), (many, -many))

    def test_the_mistake_is_how_many_letters_there_are(self):
        draws = Draws(941)
        for count in range(60):
            kinds = 1 + count % 13
            order = drawn_order(draws, kinds)
            found = mistake_of(turning(order), sorted({abs(letter) for letter in order}))
            self.assertEqual(found.number, 2 * kinds if kinds > 1 else 0)

    def test_of_more_kinds_than_the_order_has(self):
        # Stretches with other letters count 0: no more than the greatest that one counts is added.
        draws = Draws(942)
        for _ in range(20):
            order = drawn_order(draws, 2)
            kinds = sorted({abs(letter) for letter in order})
            other = draws.one_of([kind for kind in range(1, 27) if kind not in kinds])
            self.assertEqual(mistake_of(turning(order), kinds + [other]).number, 4)


class Orders(unittest.TestCase):
    def test_read_from_behind_all_counts_times_minus_1(self):
        draws = Draws(943)
        for count in range(60):
            order = drawn_order(draws, 1 + count % 5)
            self.assertEqual(turning(order[::-1]), turning(order).times(-1))
            self.assertEqual(turning(order[::-1]).added(turning(order)), Weighing([]))

    def test_the_best_value_is_not_below_0_and_of_contrary_rims_the_same(self):
        draws = Draws(944)
        for count in range(20):
            made = draws.rims(1 + count % 4, 2 + draws.below(6), 1 + draws.below(3))
            best = best_turning(made).value
            self.assertGreaterEqual(best, 0)
            back = type(made)([word.contrary() for word in made.words])
            self.assertEqual(best_turning(back).value, best)


class Bars(unittest.TestCase):
    def test_no_price_is_below_the_best_bar(self):
        draws = Draws(945)
        done = equal = 0
        for count in range(120):
            made = short_rims(draws, 1 + count % 4, 2 + draws.below(3), 2 + draws.below(2))
            found = priced(made)
            best = best_turning(made)
            if found is not None and best.value > 0:
                told = bar(turning(best.order), made)
                self.assertEqual(Fraction(told.top, told.bottom), Fraction(best.value, 4 * len(best.order)))
                self.assertEqual(value_round(turning(best.order), made), best.value)
                self.assertLessEqual(Fraction(told.top, told.bottom), found)
                equal += Fraction(told.top, told.bottom) == found
                done += 1
        self.assertGreater(done, 60)
        self.assertGreater(equal, 5)

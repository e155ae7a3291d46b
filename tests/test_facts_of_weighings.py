"""The facts of [12] on drawn weighings and rims, by second ways of reckoning; those of turnings stand apart."""

import unittest
from fractions import Fraction
from itertools import product

from handlerims.bags import Bag
from handlerims.mistakes import bar, mistake_of, three_of
from handlerims.rims import Rims
from handlerims.weighings import Weighing, slope, value_of, value_round, walk_values
from handlerims.words import Word
from tests.draws import Draws
from tests.test_bags import drawn_bags
from tests.test_price import priced, short_rims
from tests.weighed import all_letters, drawn_rows, mistake_by_hand, table_of, three_by_hand, value_by_hand


def drawn_weighing(draws, kinds=3):
    rows = drawn_rows(draws, range(1, kinds + 1), 4 + draws.below(12), 6)
    return Weighing(rows), table_of(rows)


class Threes(unittest.TestCase):
    def test_begun_elsewhere_and_the_other_way_about(self):
        draws = Draws(910)
        for _ in range(15):
            made, _ = drawn_weighing(draws)
            for x, y, z in product(all_letters(range(1, 4)), repeat=3):
                told = three_of(made, x, y, z)
                self.assertEqual([three_of(made, y, z, x), three_of(made, z, x, y)], [told, told])
                self.assertEqual(three_of(made, z, y, x), -told)
                if len({x, y, z}) < 3:
                    self.assertEqual(told, 0)


class Steps(unittest.TestCase):
    def test_round_the_walks_of_a_bag_all_neighbours_are_had(self):
        draws = Draws(911)
        for _, some, walks in drawn_bags(912, 150, 4, 4):
            bag = Bag(some, walks)
            made, table = drawn_weighing(draws)
            counted = sum(number * value for (_, number), value in zip(bag.walks, walk_values(made, bag)))
            self.assertEqual(counted, bag.copies * value_by_hand(table, some))

    def test_threes_add_up_round_a_walk(self):
        draws = Draws(913)
        done = 0
        for _, some, walks in drawn_bags(914, 150, 4, 4):
            bag = Bag(some, walks)
            made, table = drawn_weighing(draws)
            for (walk, _), value in zip(bag.walks, walk_values(made, bag)):
                letters = [some.letters[place] for place in walk]
                if len(walk) > 1:
                    threes = [three_by_hand(table, letters[0], letters[at], letters[at + 1])
                              for at in range(1, len(letters) - 1)]
                    self.assertEqual(value, sum(threes))
                    done += len(threes) > 1
        self.assertGreater(done, 100)

    def test_twice_the_cost_of_a_bag(self):
        draws = Draws(915)
        for _, some, walks in drawn_bags(916, 250, 3, 4):
            if some.is_short:
                bag = Bag(some, walks)
                self.assertTrue(all(len(walk) > 1 for walk, _ in bag.walks))
                self.assertEqual(sum(number * (len(walk) - 2) for walk, number in bag.walks), 2 * bag.cost)
                made, table = drawn_weighing(draws)
                kinds = sorted({abs(letter) for letter in some.letters})
                most = 2 * bag.cost * mistake_by_hand(table, kinds)
                self.assertLessEqual(bag.copies * value_round(made, some), most)


class Bars(unittest.TestCase):
    def test_no_price_is_below_a_bar(self):
        draws = Draws(917)
        done = close = 0
        for count in range(200):
            some = short_rims(draws, 1 + count % 4, 2 + draws.below(3), 1 + draws.below(3))
            found = priced(some)
            made, _ = drawn_weighing(draws)
            told = bar(made, some)
            if found is not None and told:
                self.assertLessEqual(Fraction(told.top, told.bottom), found)
                done += 1
                close += Fraction(told.top, told.bottom) * 2 > found
        self.assertGreater(done, 30)
        self.assertGreater(close, 5)

    def test_a_mistake_of_0_is_a_value_of_0(self):
        draws = Draws(918)
        for count in range(100):
            some = short_rims(draws, 1 + count % 4, 2 + draws.below(8), 1 + draws.below(3))
            kinds = sorted({abs(letter) for letter in some.letters})
            pairs = [(letter, draws.below(99) - 49) for letter in all_letters(kinds) if draws.below(4)]
            flat = slope(pairs)
            told = sorted({abs(letter) for letter, _ in pairs})
            if told:
                self.assertEqual(mistake_of(flat, told).number, 0)
            if told == kinds:
                self.assertEqual(value_round(flat, some), 0)
                self.assertFalse(bar(flat, some))

    def test_slopes_added_change_no_three(self):
        draws = Draws(919)
        for _ in range(20):
            made, _ = drawn_weighing(draws, 2)
            flat = slope([(letter, draws.below(99) - 49) for letter in all_letters((1, 2))])
            for three in product(all_letters((1, 2)), repeat=3):
                self.assertEqual(three_of(made.added(flat), *three), three_of(made, *three))


class Changed(unittest.TestCase):
    def test_words_so_many_times_and_contrary_words(self):
        draws = Draws(920)
        for count in range(150):
            some = draws.rims(1 + count % 4, 2 + draws.below(3), 1 + draws.below(3))
            made, _ = drawn_weighing(draws)
            value = value_round(made, some)
            rounds = 1 + draws.below(24 // some.many)
            self.assertEqual(value_round(made, Rims([word.times(rounds) for word in some.words])), rounds * value)
            self.assertEqual(value_round(made, Rims([word.contrary() for word in some.words])), -value)
            self.assertEqual(value_round(made, Rims([word.turned(draws.below(9)) for word in some.words])), value)
            word = draws.word(9, 3)
            self.assertEqual(value_of(made, word.contrary()), -value_of(made, word))

    def test_two_rings_made_one_by_two_threes(self):
        draws = Draws(921)
        for _ in range(200):
            some = draws.rims(2, 2 + draws.below(4), 1 + draws.below(3))
            made, table = drawn_weighing(draws)
            one, other = [word.letters for word in some.words]
            whole = value_round(made, Rims([Word(one + other)]))
            x, y, back_x, back_y = one[0], other[0], one[-1], other[-1]
            # The last letter of the one goes to y for x, that of the other one to x for y.
            more = three_by_hand(table, -back_x, y, x) + three_by_hand(table, -back_y, x, y)
            self.assertEqual(whole, value_round(made, some) + more)

    def test_a_letter_beside_its_contrary_taken_out_by_one_three(self):
        draws = Draws(922)
        for _ in range(200):
            some = draws.rims(1 + draws.below(2), 2 + draws.below(4), 1 + draws.below(3))
            made, table = drawn_weighing(draws)
            letter = draws.letter(3)
            first = some.words[0].letters
            longer = Rims([Word(first + (letter, -letter))] + list(some.words[1:]))
            three = three_by_hand(table, -first[-1], letter, first[0])
            self.assertEqual(value_round(made, longer), value_round(made, some) + three)

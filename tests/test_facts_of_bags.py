"""The facts of [10] on drawn rims and bags, by second ways of reckoning."""

import unittest
from fractions import Fraction

from handlerims.bag_changes import added, lowest_bag, parted_walks, times
from handlerims.bags import Bag, bag_of, is_bag
from handlerims.built import bag_of_rounds, built
from handlerims.rims import Rims
from handlerims.sewings import Sewing, all_sewings
from tests import sewn
from tests.draws import Draws
from tests.test_bags import drawn_bags, folded_corners, is_bag_by_hand, steps_told


def price(bag):
    return Fraction(*bag.price)


class Corners(unittest.TestCase):
    def test_of_a_sewing_they_are_a_bag_of_one_copy(self):
        draws = Draws(190)
        for count in range(150):
            made = draws.rims(1 + count % 4, 2 + draws.below(11), 1 + draws.below(4))
            sewing = Sewing(made, draws.mates(made))
            bag = bag_of(sewing)
            self.assertTrue(is_bag_by_hand(made, bag.walks))
            self.assertEqual((bag.copies, bag.cost), (1, sewn.cost_of(made.words, sewing.mates)))
            self.assertEqual(price(bag), Fraction(bag.cost, 2))
            counts = steps_told(made, bag.walks)
            self.assertEqual(counts, {(place, mate): 1 for place, mate in enumerate(sewing.mates)})

    def test_folded_onto_fewer_rims(self):
        draws = Draws(191)
        for _ in range(80):
            made = draws.rims(1 + draws.below(2), 2 + draws.below(2), 2)
            copies = 1 + draws.below(2)
            rims = Rims([word.times(copies) for word in made.words])
            sewing = Sewing(rims, draws.mates(rims))
            bag = bag_of_rounds(sewing, made, list(range(len(made.words))))
            self.assertEqual((bag.copies, bag.cost), (copies, sewing.cost))
            self.assertEqual(price(bag), Fraction(sewing.cost, 2 * copies))
            places = [place for home, word in enumerate(made.words) for place in
                      [at for at in range(made.many) if made.rim_of(at) == home] * copies]
            walks = [([places[at] for at in corner], 1) for corner in sewing.corners]
            self.assertTrue(is_bag_by_hand(made, walks))
            self.assertEqual(bag, Bag(made, walks))

    def test_the_bags_of_one_copy_are_those_of_sewings(self):
        # Each bag of one copy tells its mates: no two sewings have the same one.
        for text in ("a a a a' a' a'", "a b / b' a'", "a a / a' / a'", "a a b b a' a' b' b'"):
            bags = [bag_of(sewing) for sewing in all_sewings(Rims.read(text))]
            for at, bag in enumerate(bags):
                self.assertEqual([other for other in bags if other == bag], [bag])
                self.assertEqual(built(bag).sewing, all_sewings(Rims.read(text))[at])


class Had(unittest.TestCase):
    def test_each_bag_is_had_from_a_sewing_of_copies(self):
        done = 0
        for _, made, walks in drawn_bags(192, 250, 4, 3):
            bag = Bag(made, walks)
            if bag.copies * made.many <= 24 and bag.copies * len(made.words) <= 4:
                found = built(bag)
                self.assertEqual(bag_of_rounds(found.sewing, made, found.words), bag)
                self.assertEqual(found.sewing.rims.many, bag.copies * made.many)
                self.assertEqual(sewn.cost_of(found.sewing.rims.words, found.sewing.mates), bag.cost)
                done += 1
        self.assertGreater(done, 100)


class Changed(unittest.TestCase):
    def test_parted_walks_have_the_same_steps_and_cost_less(self):
        for draws, made, walks in drawn_bags(193, 150, 4, 3):
            bag = times(Bag(made, walks), 1 + draws.below(3))
            parts = parted_walks(bag)
            self.assertEqual(steps_told(made, parts.walks), steps_told(made, bag.walks))
            less = sum(number * (len(walk) - len(set(walk)) > 0) for walk, number in bag.walks)
            self.assertLessEqual(parts.cost, bag.cost - less)
            self.assertLessEqual(price(parts), price(bag))

    def test_a_walk_parted_once_is_cheaper_by_its_number(self):
        done = 0
        for draws, made, walks in drawn_bags(194, 200, 3, 3):
            at = draws.below(len(walks))
            walk, number = walks[at][0], 1 + draws.below(4)
            bag = Bag(made, [(one, number) for one, _ in walks])
            twice = [(i, j) for i in range(len(walk)) for j in range(i + 1, len(walk)) if walk[i] == walk[j]]
            if twice:
                i, j = draws.one_of(twice)
                rest = [(one, number) for one, _ in walks[:at] + walks[at + 1:]]
                parts = Bag(made, rest + [(walk[i:j], number), (walk[j:] + walk[:i], number)])
                self.assertEqual((parts.copies, parts.bands, parts.cost), (bag.copies, bag.bands, bag.cost - number))
                done += 1
        self.assertGreater(done, 50)

    def test_two_bags_make_one(self):
        for draws, made, walks in drawn_bags(195, 100):
            one, other = Bag(made, walks), Bag(made, folded_corners(draws, made, 1 + draws.below(3)))
            both = added(one, other)
            self.assertEqual(both.cost, one.cost + other.cost)
            weighed = price(one) * one.copies + price(other) * other.copies
            self.assertEqual(price(both) * both.copies, weighed)
            self.assertTrue(min(price(one), price(other)) <= price(both) <= max(price(one), price(other)))

    def test_some_times_as_many_have_the_same_price(self):
        for draws, made, walks in drawn_bags(196, 100):
            bag, number = Bag(made, walks), 1 + draws.below(20)
            self.assertEqual(price(times(bag, number)), price(bag))
            self.assertEqual(lowest_bag(times(bag, number)), lowest_bag(bag))
            self.assertEqual(price(lowest_bag(bag)), price(bag))

    def test_costs_below_0_only_where_rims_are_not_shortened_round(self):
        below = 0
        for _, made, walks in drawn_bags(197, 300, 2, 3):
            bag = Bag(made, walks)
            if made.is_short:
                self.assertGreaterEqual(bag.cost, 0)
                self.assertTrue(all(len(walk) > 1 for walk, _ in bag.walks))
            below += bag.cost < 0
            self.assertIs(is_bag(made, bag.walks), True)
        self.assertGreater(below, 20)

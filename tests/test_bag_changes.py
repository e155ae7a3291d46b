from math import gcd

from handlerims.bag_changes import added, lowest_bag, parted_walks, times
from handlerims.bags import Bag, bag_of
from handlerims.errors import BadBag, BadNumber, Misfit
from handlerims.sewings import Sewing
from tests.cases import Case, rims
from tests.draws import Draws
from tests.test_bags import LOOP, ONE, TWOS, drawn_bags, folded_corners, steps_told

NO_BAGS = (1, LOOP, ONE, [(0, 3, 2, 1)], Sewing(LOOP, [2, 3, 0, 1]))
BAG = Bag(LOOP, ONE)
MIXED = Bag(TWOS, [((0, 3, 2, 1, 0), 1), ((1, 3), 1), ((2,), 1)])


def totals(*bags):
    """The numbers of the walks of the bags, added up walk by walk."""
    found = {}
    for bag in bags:
        for walk, number in bag.walks:
            found[walk] = found.get(walk, 0) + number
    return tuple(sorted(found.items()))


class Added(Case):
    def test_the_walks_of_both(self):
        self.assertEqual(added(BAG, BAG), Bag(LOOP, [([0, 3, 2, 1], 2)]))
        self.assertEqual(added(other=BAG, one=Bag(LOOP, [([0, 3, 2, 1] * 2, 1)])).walks,
                         (((0, 3, 2, 1), 1), ((0, 3, 2, 1, 0, 3, 2, 1), 1)))
        for draws, made, walks in drawn_bags(160, 120):
            one, other = Bag(made, walks), Bag(made, folded_corners(draws, made, 1 + draws.below(3)))
            both = added(one, other)
            self.assertEqual((both.rims, both.walks), (made, totals(one, other)))
            self.assertEqual((both.copies, both.many, both.cost),
                             (one.copies + other.copies, one.many + other.many, one.cost + other.cost))
            bands = dict.fromkeys([band[:2] for band in one.bands + other.bands], 0)
            for place, mate, many in one.bands + other.bands:
                bands[place, mate] += many
            self.assertEqual({band[:2]: band[2] for band in both.bands}, bands)
            self.assertEqual(added(other, one), both)

    def test_errors_in_order(self):
        self.wrong_among(lambda value: added(value, None), lambda value: BadBag("one"), NO_BAGS)
        self.wrong_among(lambda value: added(BAG, value), lambda value: BadBag("other"), NO_BAGS)
        self.told(Misfit("rims"), added, BAG, MIXED)
        self.told(Misfit("rims"), added, BAG, Bag(rims("b a b' a'"), ONE))


class Times(Case):
    def test_so_many_of_each_walk(self):
        for _, made, walks in drawn_bags(161, 60):
            bag = Bag(made, walks)
            for number in (1, 2, 7, 10 ** 90):
                more = times(bag, number)
                self.assertEqual(more.walks, tuple((walk, many * number) for walk, many in bag.walks))
                self.assertEqual((more.copies, more.cost), (bag.copies * number, bag.cost * number))
                self.assertEqual(more.price, bag.price)
        self.assertEqual(times(number=1, bag=BAG), BAG)
        self.assertEqual(times(BAG, 3), added(BAG, added(BAG, BAG)))

    def test_errors_in_order(self):
        self.wrong_among(lambda value: times(value, None), lambda value: BadBag("bag"), NO_BAGS)
        self.wrong_among(lambda value: times(BAG, value), lambda value: BadNumber("number"), (0, -1, -10 ** 90, [1]))


class Lowest(Case):
    def test_numbers_divided(self):
        self.assertEqual(lowest_bag(bag=times(BAG, 6)), BAG)
        self.assertEqual(lowest_bag(BAG), BAG)
        two = Bag(LOOP, [([0, 3, 2, 1], 4), ([0, 3, 2, 1] * 2, 6)])
        self.assertEqual(lowest_bag(two).walks, (((0, 3, 2, 1), 2), ((0, 3, 2, 1) * 2, 3)))
        for _, made, walks in drawn_bags(162, 100):
            bag = Bag(made, walks)
            least = lowest_bag(bag)
            divisor = gcd(*[number for _, number in bag.walks])
            self.assertEqual(times(least, divisor), bag)
            self.assertEqual(gcd(*[number for _, number in least.walks]), 1)
            for number in (2, 3, 12):
                self.assertEqual(lowest_bag(times(bag, number)), least)

    def test_wrong_bags(self):
        self.wrong_among(lowest_bag, lambda value: BadBag("bag"), NO_BAGS)


class PartedWalks(Case):
    def test_parted_where_a_place_comes_twice(self):
        self.assertEqual(parted_walks(MIXED).walks, (((0,), 1), ((0, 3, 2, 1), 1), ((1, 3), 1), ((2,), 1)))
        self.assertEqual(parted_walks(MIXED).price, (0, 1))
        self.assertEqual(parted_walks(bag=BAG), BAG)
        for many, number in ((2, 1), (3, 5), (1000, 2)):
            self.assertEqual(parted_walks(Bag(LOOP, [([3, 2, 1, 0] * many, number)])), times(BAG, many * number))

    def test_drawn_ones(self):
        cheaper = 0
        for _, made, walks in drawn_bags(163, 200, 4, 3):
            bag = Bag(made, walks)
            parts = parted_walks(bag)
            self.assertEqual(steps_told(made, parts.walks), steps_told(made, bag.walks))
            self.assertEqual((parts.copies, parts.bands, parts.rims), (bag.copies, bag.bands, made))
            self.assertTrue(all(len(set(walk)) == len(walk) for walk, _ in parts.walks))
            self.assertEqual(bag.cost - parts.cost, parts.many - bag.many)
            # Walks that come to no place twice stay.
            for walk, number in bag.walks:
                if len(set(walk)) == len(walk):
                    self.assertGreaterEqual(dict(parts.walks).get(walk, 0), number)
            stays = all(len(set(walk)) == len(walk) for walk, _ in bag.walks)
            self.assertIs(parts == bag, stays)
            self.assertEqual(parted_walks(Bag(made, walks)), parts)
            cheaper += not stays
        self.assertGreater(cheaper, 60)

    def test_wrong_bags(self):
        self.wrong_among(parted_walks, lambda value: BadBag("bag"), NO_BAGS)

    def test_the_bag_stays(self):
        draws = Draws(164)
        made = draws.rims(1, 4, 2)
        bag = bag_of(Sewing(made, draws.mates(made)))
        told = bag.walks
        for call in (parted_walks, lowest_bag, lambda one: times(one, 2), lambda one: added(one, one)):
            call(bag)
            self.assertEqual(bag.walks, told)

from fractions import Fraction

from handlerims.bags import Bag, bag_of, is_bag
from handlerims.errors import BadBag, BadRims, BadSewing
from handlerims.rims import Rims
from handlerims.sewings import Sewing, all_sewings
from handlerims.words import Word
from tests import sewn
from tests.cases import WRONG, Case, rims
from tests.draws import Draws

LOOP, TWOS = rims("a b a' b'"), rims("a a a' a'")
ONE = (((0, 3, 2, 1), 1),)
PARTS = [([0], 1), ([1, 3], 1), ([2], 1)]


def folded_corners(draws, made, rounds):
    """Walks of the rims: the corners of a drawn sewing of rims, each some rounds of a word, so many of each word."""
    words, homes = [], []
    for home, word in enumerate(made.words):
        left = rounds
        while left > 0:
            many = 1 + draws.below(left)
            words.append(word.letters * many)
            homes.append((home, many))
            left -= many
    letters = [letter for word in words for letter in word]
    starts = [sum(len(word) for word in made.words[:home]) for home, _ in homes]
    places = [start + at % len(made.words[home]) for (home, many), start in zip(homes, starts)
              for at in range(many * len(made.words[home]))]
    behind = sewn.next_places(words)
    mates = [None] * len(letters)
    for place, letter in enumerate(letters):
        if mates[place] is None:
            free = [at for at in range(len(letters)) if letters[at] == -letter and mates[at] is None]
            mates[place] = draws.one_of(free)
            mates[mates[place]] = place
    walks, seen = [], set()
    for start in range(len(letters)):
        walk, place = [], start
        while place not in seen:
            seen.add(place)
            walk.append(places[place])
            place = behind[mates[place]]
        if walk:
            walks.append((walk, 1))
    return walks


def steps_told(made, walks):
    """How often steps go by each two places, by the next places alone."""
    behind = sewn.next_places(made.words)
    counts = {}
    for walk, number in walks:
        for at, place in enumerate(walk):
            mate = behind.index(walk[(at + 1) % len(walk)])
            counts[place, mate] = counts.get((place, mate), 0) + number
    return counts


def is_bag_by_hand(made, walks):
    counts = steps_told(made, walks)
    if any(made.letters[mate] != -made.letters[place] for place, mate in counts):
        return False
    copies = [sum(many for (one, _), many in counts.items() if one == place) for place in range(made.many)]
    same = all(counts.get((mate, place)) == many for (place, mate), many in counts.items())
    return same and len(set(copies)) == 1 and copies[0] > 0


def drawn_bags(start, many, rounds=3, bands=4):
    draws = Draws(start)
    for count in range(many):
        made = draws.rims(1 + count % 3, 2 + draws.below(bands), 1 + draws.below(3))
        yield draws, made, folded_corners(draws, made, 1 + draws.below(rounds))


class Made(Case):
    def test_attributes(self):
        bag = Bag(LOOP, [([3, 2, 1, 0], 2)])
        self.assertEqual((bag.rims, bag.walks, bag.many, bag.copies), (LOOP, (((0, 3, 2, 1), 2),), 2, 2))
        self.assertEqual((bag.bands, bag.cost, bag.price), (((0, 2, 2), (1, 3, 2)), 2, (1, 2)))
        mixed = Bag(rims=TWOS, walks=[((0, 3, 2, 1, 0), 1), ((1, 3), 1), ((2,), 1)])
        self.assertEqual(mixed.walks, (((0, 0, 3, 2, 1), 1), ((1, 3), 1), ((2,), 1)))
        self.assertEqual((mixed.many, mixed.copies, mixed.cost, mixed.price), (3, 2, 1, (1, 4)))
        self.assertEqual(mixed.bands, ((0, 2, 1), (0, 3, 1), (1, 2, 1), (1, 3, 1)))
        for value in (mixed.walks, mixed.walks[0], mixed.walks[0][0], mixed.bands, mixed.bands[0], mixed.price):
            self.assertIs(type(value), tuple)

    def test_costs_and_prices_below_0_and_0(self):
        parts = Bag(TWOS, PARTS)
        self.assertEqual((parts.cost, parts.price, parts.copies, parts.many), (-1, (-1, 2), 1, 3))
        tube = Bag(rims("a b / b' a'"), [([0, 2], 5), ([1, 3], 5)])
        self.assertEqual((tube.cost, tube.price, tube.copies, tube.many), (0, (0, 1), 5, 10))
        self.assertEqual(Bag(rims("a a'"), [([0], 1), ([1], 1)]).price, (-1, 2))

    def test_each_walk_from_where_it_is_least(self):
        for walk, least in (((3, 2, 1, 0), (0, 3, 2, 1)), ((2, 1, 0, 3), (0, 3, 2, 1)), ((0, 3, 2, 1), (0, 3, 2, 1)),
                            ((3, 2, 1, 0, 3, 2, 1, 0), (0, 3, 2, 1, 0, 3, 2, 1))):
            self.assertEqual(Bag(LOOP, [(walk, 1)]).walks, ((least, 1),))
        # The least of those that begin with the least place.
        walks = Bag(TWOS, [([0, 3, 2, 1, 0], 1), ([1, 3], 1), ([2], 1)]).walks
        self.assertEqual(walks[0], ((0, 0, 3, 2, 1), 1))

    def test_equal_walks_are_one_and_all_ascend(self):
        bag = Bag(LOOP, [([3, 2, 1, 0], 2), ([0, 3, 2, 1], 3), ([1, 0, 3, 2] * 2, 1), ([2, 1, 0, 3], 1)])
        self.assertEqual(bag.walks, (((0, 3, 2, 1), 6), ((0, 3, 2, 1, 0, 3, 2, 1), 1)))
        self.assertEqual((bag.many, bag.copies, bag.cost), (7, 8, 9))
        self.assertEqual(Bag(TWOS, [([2], 1), ([3, 1], 1), ([0], 1)]).walks, (((0,), 1), ((1, 3), 1), ((2,), 1)))

    def test_equal(self):
        two = Bag(rims("a b a' b'"), [([0, 3, 2, 1], 1), ([2, 1, 0, 3], 1)])
        self.assertTrue(Bag(LOOP, [([3, 2, 1, 0], 2)]) == two)
        one = Bag(LOOP, ONE)
        for other in (Bag(LOOP, [([0, 3, 2, 1], 2)]), Bag(LOOP, [([0, 3, 2, 1] * 2, 1)]), None, LOOP, ONE,
                      Bag(rims("b a b' a'"), ONE)):
            self.assertIs(one == other, False)
            self.assertIs(one != other, True)

    def test_drawn_ones_counted_another_way(self):
        seen = set()
        for _, made, walks in drawn_bags(150, 200):
            bag = Bag(made, walks)
            counts = steps_told(made, walks)
            rows = {}
            for walk, number in walks:
                least = min(tuple(walk[at:] + walk[:at]) for at in range(len(walk)))
                rows[least] = rows.get(least, 0) + number
            self.assertEqual(bag.walks, tuple(sorted(rows.items())))
            self.assertEqual(bag.many, len(walks))
            self.assertEqual(bag.copies * made.many, sum(counts.values()))
            self.assertEqual(bag.bands, tuple(sorted((one, other, many) for (one, other), many in counts.items()
                                                     if one < other)))
            self.assertEqual(2 * bag.cost, sum(counts.values()) - 2 * len(walks))
            price = Fraction(bag.cost, 2 * bag.copies)
            self.assertEqual(bag.price, (price.numerator, price.denominator))
            seen.add(bag.copies)
        self.assertEqual(seen, {1, 2, 3})

    def test_large_numbers_and_long_walks(self):
        bag = Bag(LOOP, [([0, 3, 2, 1], 10 ** 90)])
        self.assertEqual((bag.copies, bag.cost, bag.price), (10 ** 90, 10 ** 90, (1, 2)))
        long = Bag(LOOP, [([3, 2, 1, 0] * 2000, 1)])
        self.assertEqual((long.copies, long.cost, long.walks[0][0][:4]), (2000, 3999, (0, 3, 2, 1)))

    def test_what_is_passed_is_copied(self):
        walk = [0, 3, 2, 1]
        walks = [[walk, 1]]
        bag = Bag(LOOP, walks)
        walk.append(0)
        walks[0][1] = 9
        self.assertEqual(bag.walks, ONE)


def no_bags():
    """Values that make no bag of LOOP."""
    good = [0, 3, 2, 1]
    bent = [[], (), [good], good, (good, 1), [(good, 0)], [(good, -1)], [(good, True)], [(good, 1.0)], [(good, "1")],
            [(good, None)], [(good,)], [(good, 1, 1)], [([], 1)], [((), 1)], [([0, 3, 2], 1)], [([0, 3, 2, 1, 0], 1)],
            [([0, 1, 2, 3], 1)], [([0, 3, 2, 4], 1)], [([0, 3, 2, -3], 1)], [([0, -1, 2, 1], 1)],
            [([False, 3, 2, 1], 1)], [([0, 3, 2, True], 1)], [([0.0, 3, 2, 1], 1)], [([0, 3, 2, None], 1)],
            [([0, 3, 2, [1]], 1)], [("0321", 1)], [({0: 3}, 1)], [({0, 1, 2, 3}, 1)], [(good, 1), None],
            [(good, 1), ([], 1)], [(good, 1), (good, 0)],
            [([0], 1)], [([0], 1), ([1], 1), ([2], 1), ([3], 1)], [([0, 2], 1), ([1, 3], 1)], {0: (good, 1)},
            [(1, good)], [{0: good, 1: 1}], Bag(LOOP, ONE), [(good, 10 ** 90), ([0], 1)], 1, LOOP, "ab",
            [([0, 3, 2, 10 ** 90], 1)]]
    for value in WRONG:
        bent += [value, [value], [(good, value)], [(value, 1)], [([0, 3, 2, value], 1)], [(good, 1), value]]
    return bent


class Told(Case):
    def test_is_bag(self):
        mixed, flat = [([0, 3, 2, 1, 0], 1), ([1, 3], 1), ([2], 1)], rims("a a'")
        for made, walks in ((LOOP, ONE), (LOOP, [[[1, 0, 3, 2], 7]]), (TWOS, PARTS), (TWOS, mixed),
                            (rims("a / a'"), [((0, 1), 1)]), (flat, [([0], 1), ([1], 1)]),
                            (flat, [([0, 0], 1), ([1], 2)]), (LOOP, [([0, 3, 2, 1] * 3, 2), ([2, 1, 0, 3], 1)])):
            self.assertIs(is_bag(made, walks), True)
        self.assertIs(is_bag(walks=ONE, rims=LOOP), True)

    def test_no_bags(self):
        for value in no_bags():
            self.assertIs(is_bag(LOOP, value), False)
            self.told(BadBag("walks"), Bag, LOOP, value)
        for walks in ([([0], 1), ([1, 3], 1)], [([0], 2), ([1, 3], 1), ([2], 1)], [([0], 1), ([2], 1)],
                      [([0, 1, 2, 3], 1)], [([0], 1), ([1, 3], 2), ([2], 1)], [([1, 3], 1)]):
            self.assertIs(is_bag(TWOS, walks), False)

    def test_steps_by_i_and_j_as_many_as_by_j_and_i(self):
        # From each place goes one step, but not back by the same two places.
        three = rims("a a a a' a' a'")
        by_hand = 0
        for walks in ([([0, 4, 2, 5, 1, 3], 1)], [([0], 1), ([1, 5], 1), ([2, 4], 1), ([3], 1)]):
            self.assertIs(is_bag(three, walks), is_bag_by_hand(three, walks))
            by_hand += is_bag_by_hand(three, walks)
        draws = Draws(151)
        unlike = 0
        for _ in range(300):
            made = draws.rims(1 + draws.below(2), 3, 1)
            behind = made.nexts
            backs = {letter: draws.mixed([at for at in range(6) if made.letters[at] == -letter]) for letter in (1, -1)}
            steps = [behind[backs[letter].pop()] for letter in made.letters]
            walks, seen = [], set()
            for start in range(6):
                walk, place = [], start
                while place not in seen:
                    seen.add(place)
                    walk.append(place)
                    place = steps[place]
                if walk:
                    walks.append((walk, 1))
            self.assertIs(is_bag(made, walks), is_bag_by_hand(made, walks))
            unlike += not is_bag_by_hand(made, walks)
        self.assertGreater(unlike, 100)
        self.assertLess(unlike, 290)

    def test_drawn_ones_and_bent_ones(self):
        right = 0
        for draws, made, walks in drawn_bags(152, 200):
            self.assertIs(is_bag(made, walks), True)
            at = draws.below(len(walks))
            walk, number = walks[at]
            for bent in (walks[:at] + walks[at + 1:], walks[:at] + [(walk, number + 1)] + walks[at + 1:],
                         walks[:at] + [(walk[::-1], number)] + walks[at + 1:],
                         walks[:at] + [(walk + walk, number)] + walks[at + 1:], walks + walks,
                         walks[:at] + [(walk[:-1], number)] + walks[at + 1:]):
                answer = bent != [] and all(len(one) > 0 for one, _ in bent) and is_bag_by_hand(made, bent)
                self.assertIs(is_bag(made, bent), answer)
                right += answer
        self.assertGreater(right, 200)

    def test_rims_come_first(self):
        for call in (Bag, is_bag):
            for walks in (None, ONE, []):
                self.wrong_among(lambda value: call(value, walks), lambda value: BadRims("rims"),
                                 (1, Word([1, -1]), [Word([1, -1])], "a a'", Bag(LOOP, ONE)))


class OfSewings(Case):
    def test_the_corners_each_once(self):
        for text in ("a b a' b'", "a a a' a'", "a b / b' a'", "a a / a' / a'", "a a a / a' a' a'"):
            for sewing in all_sewings(rims(text)):
                bag = bag_of(sewing=sewing)
                self.assertEqual(bag, Bag(sewing.rims, [(list(corner), 1) for corner in sewing.corners]))
                self.assertEqual((bag.copies, bag.cost, bag.many), (1, sewing.cost, len(sewing.corners)))
                self.assertEqual(bag.walks, tuple((corner, 1) for corner in sewing.corners))
                self.assertEqual(bag.bands, tuple((place, mate, 1) for place, mate in enumerate(sewing.mates)
                                                  if place < mate))

    def test_drawn_ones(self):
        draws = Draws(153)
        for count in range(150):
            made = draws.rims(1 + count % 4, 2 + draws.below(11), 1 + draws.below(4))
            sewing = Sewing(made, draws.mates(made))
            bag = bag_of(sewing)
            self.assertEqual((bag.rims, bag.copies), (made, 1))
            self.assertEqual(bag.cost, sewn.cost_of(made.words, sewing.mates))

    def test_wrong_sewings(self):
        more = (1, LOOP, ONE, [2, 3, 0, 1], Bag(LOOP, ONE), Rims([Word([1, -1])]))
        self.wrong_among(bag_of, lambda value: BadSewing("sewing"), more)

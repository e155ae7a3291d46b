"""The facts of [11] on drawn rings and rims, by second ways of reckoning."""

import unittest
from fractions import Fraction

from handlerims.bags import Bag
from handlerims.errors import TooMany
from handlerims.handles import handles_of, rounds_of_exchange
from handlerims.letters import rounded_letters
from handlerims.price import handles_at_least, price, price_word
from handlerims.renamed import put
from handlerims.rims import Rims
from handlerims.ring_lists import balanced_rings
from handlerims.tubes import tubes_of
from handlerims.weights import weight_bound
from handlerims.words import Word
from tests import sewn
from tests.draws import Draws
from tests.test_bags import drawn_bags, folded_corners
from tests.test_price import priced, short_ring, short_rims
from tests.test_weights import drawn_weights


def drawn_prices(start, many, words=4, bands=5, kinds=4):
    """Drawn rims, shortened round, with their price."""
    draws = Draws(start)
    for count in range(many):
        made = short_rims(draws, 1 + count % words, max(2, 1 + draws.below(bands)), 1 + draws.below(kinds))
        found = priced(made)
        if found is not None:
            yield draws, made, found


class Weighed(unittest.TestCase):
    def test_right_weights_allow_no_price_below_their_bound(self):
        for draws, made, walks in drawn_bags(860, 150, 4, 4):
            bag = Bag(made, walks)
            bound = Fraction(*weight_bound(made, drawn_weights(draws, made)))
            self.assertLessEqual(bound, Fraction(*bag.price))

    def test_no_bag_is_below_the_price(self):
        for draws, made, found in drawn_prices(861, 100):
            for _ in range(5):
                bag = Bag(made, folded_corners(draws, made, 1 + draws.below(4)))
                self.assertGreaterEqual(Fraction(*bag.price), found)
            bound = Fraction(*weight_bound(made, drawn_weights(draws, made)))
            self.assertLessEqual(bound, found)

    def test_half_the_cost_of_each_sewing_is_at_least_the_price(self):
        for _, made, found in drawn_prices(862, 80, kinds=3):
            least = min(sewn.cost_of(made.words, mates) for mates in sewn.all_mates(made.letters))
            self.assertLessEqual(found, Fraction(least, 2))


class Same(unittest.TestCase):
    def test_turned_contrary_renamed_in_another_order(self):
        for draws, made, found in drawn_prices(863, 100):
            turned = Rims([word.turned(draws.below(10)) for word in made.words])
            back = Rims([word.contrary() for word in made.words])
            mixed = Rims(draws.mixed(made.words))
            names = draws.mixed(range(1, 27))
            signs = [draws.one_of([1, -1]) for _ in names]
            named = Rims([Word([names[abs(letter)] * signs[abs(letter)] * (1 if letter > 0 else -1)
                                for letter in word.letters]) for word in made.words])
            for other in (turned, back, mixed, named):
                self.assertEqual(priced(other), found)

    def test_rounds_of_a_ring(self):
        done = 0
        for text, most in (("a b a' b'", 2), ("a b / b' a'", 2), ("a / a'", 3), ("a / b / b' a'", 2)):
            made = Rims.read(text)
            for rounds in range(1, most + 1):
                long = Rims([word.times(rounds) for word in made.words])
                self.assertEqual(priced(long), rounds * priced(made))
                done += 1
        draws = Draws(864)
        for _ in range(30):
            made = short_rims(draws, 2, 2, 2)
            found = priced(Rims([word.times(2) for word in made.words]))
            if found is not None:
                self.assertEqual(found, 2 * priced(made))
                done += 1
        self.assertGreater(done, 30)


class Together(unittest.TestCase):
    def test_two_lots(self):
        draws = Draws(865)
        done = below = 0
        for _ in range(120):
            one = short_rims(draws, 1 + draws.below(2), 2, 2)
            other = short_rims(draws, 1 + draws.below(2), 2 + draws.below(2), 2)
            both = priced(Rims(list(one.words) + list(other.words)))
            if both is not None:
                self.assertLessEqual(both, priced(one) + priced(other))
                below += both < priced(one) + priced(other)
                done += 1
            moved = [put(put(word, 1, Word([3])), 2, Word([4])) for word in other.words]
            apart = priced(Rims(list(one.words) + moved))
            self.assertEqual(apart, priced(one) + priced(other))
        self.assertGreater(done, 60)
        self.assertGreater(below, 5)

    def test_a_ring_told_twice(self):
        for ring in balanced_rings(2, 4):
            self.assertEqual(priced(Rims([ring, ring])), 2 * priced(Rims([ring])))

    def test_a_letter_between(self):
        draws = Draws(866)
        done = 0
        for _ in range(100):
            made = short_rims(draws, 2, 2 + draws.below(3), 1 + draws.below(3))
            one, other = made.words
            ring = Word(one.letters + (9,) + other.letters + (-9,))
            found = priced(Rims([ring]))
            if found is not None:
                self.assertEqual(found, priced(made) + Fraction(1, 2))
                done += 1
        self.assertGreater(done, 60)

    def test_two_rings_of_unlike_letters_made_one(self):
        draws = Draws(867)
        for _ in range(40):
            one, other = short_ring(draws, 2, 2), short_ring(draws, 2 + draws.below(2), 2)
            moved = put(put(other, 1, Word([3])), 2, Word([4]))
            both = priced(Rims([one.then(moved)]))
            self.assertEqual(both, priced(Rims([one])) + priced(Rims([other])) + Fraction(1, 2))


class Least(unittest.TestCase):
    def test_words_put_for_letters(self):
        draws = Draws(868)
        done = 0
        for _ in range(300):
            ring = short_ring(draws, 2 + draws.below(2), 2)
            worths = [draws.letters(2, 2) for _ in range(2)]
            made = []
            for letter in ring.letters:
                part = worths[abs(letter) - 1]
                made += part if letter > 0 else [-one for one in reversed(part)]
            left = rounded_letters(made)
            if 0 < len(left) <= 10:
                found = priced(Rims([Word(left)]))
                if found is not None:
                    self.assertLessEqual(found, priced(Rims([ring])))
                    done += 1
        self.assertGreater(done, 60)

    def test_one_ring_one_half_or_more_and_rims_0_or_more(self):
        zero = 0
        for _, made, found in drawn_prices(869, 250, kinds=3):
            self.assertGreaterEqual(found, Fraction(1, 2) if len(made.words) == 1 else 0)
            if len(made.words) > 1 and tubes_of(made) is not None:
                self.assertEqual(found, 0)
            zero += found == 0
        self.assertGreater(zero, 20)
        self.assertEqual(priced(Rims.read("a / a / a' a'")), 0)
        self.assertIs(tubes_of(Rims.read("a / a / a' a'")), None)

    def test_handles_of_rounds(self):
        loop = Word([1, 2, -1, -2])
        for rounds in range(1, 40):
            self.assertEqual(handles_at_least(1, 2, rounds), rounds_of_exchange(rounds))
        draws = Draws(870)
        for _ in range(40):
            ring = short_ring(draws, 2 + draws.below(2), 2)
            found = priced(Rims([ring]))
            for rounds in (1, 2):
                if ring.length * rounds <= 12:
                    handles = handles_of(ring.times(rounds)).number
                    self.assertGreaterEqual(handles, rounds * found + Fraction(1, 2))
                    self.assertGreaterEqual(handles, handles_at_least(found.numerator, found.denominator, rounds))
        self.assertEqual(handles_of(loop.times(3)).number, 2)


class ByCount(unittest.TestCase):
    def test_rings_of_two_kinds(self):
        for letters in (4, 6, 8):
            for ring in balanced_rings(2, letters):
                twice = letters == 8 and ring == ring.turned(4)
                self.assertEqual(priced(Rims([ring])), 1 if twice else Fraction(1, 2), str(ring))

    def test_one_of_ten_letters(self):
        found = price_word(Word.read("a' a' a' b' a b a b' a b"))
        self.assertEqual((found.top, found.bottom), (5, 6))

    def test_too_many_walks_are_no_price(self):
        self.assertIs(priced(Rims.read("a a a a / a' a' a' a'")), None)
        with self.assertRaises(TooMany):
            price(Rims.read("a a a a / a' a' a' a'"))

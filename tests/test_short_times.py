"""Answers come in a short time, also at the bounds that are told."""

import time
import unittest

from handlerims.bag_changes import parted_walks, times
from handlerims.bags import Bag, bag_of
from handlerims.built import built
from handlerims.check_cheapest import shows_cheapest, shows_in_one
from handlerims.check_price import shows_price, shows_weights
from handlerims.check_spellings import shows_fewest, shows_spelling
from handlerims.check_squares import shows_square_spelling, shows_squares
from handlerims.check_weighings import shows_mistake, shows_turned
from handlerims.cheapest import cheapest, in_one
from handlerims.crossed import all_crossed, crossed_census, many_crossed
from handlerims.desk import Desk
from handlerims.errors import TooMany
from handlerims.handles import handles_of
from handlerims.mistakes import bar, mistake_of
from handlerims.price import Price, price
from handlerims.rims import Rims
from handlerims.sewings import Sewing, all_sewings
from handlerims.spelled import rounds_spelled, spelled, spelled_word
from handlerims.spellings import Spelling, moved, product_of, put_in, undone
from handlerims.square_spelled import SquareSpelling, square_product, square_spelled_word, squared_ahead
from handlerims.squares import as_square, squares_of
from handlerims.tightened import sewing_of, tightened
from handlerims.stories import merged, replay
from handlerims.tubes import tube
from handlerims.turnings import Turned, best_turning, turning
from handlerims.walks import simple_walks, steps_of
from handlerims.weighings import Weighing, slope, walk_values
from handlerims.weights import Weights, lightest, weight_bound
from handlerims.words import Word

A, B = Word([1]), Word([2])
# 720 sewings of 24 letters, and 945 crossed sewings of 16.
MOST = Word([1] * 6 + [2, 3, 4, 5, 6, 7] + [-1] * 6 + [-2, -3, -4, -5, -6, -7])
MOST_CROSSED = Word([1, 2, 3] * 4 + [1] * 4)
LONG = [Word([1] * 500), Word([2] * 500)]
LOOP = Rims([Word([1, 2, -1, -2])])
SLOW_PRICES = ("a a / b b / a / b' a' b' a' a'", "b a' b' b' a b b a' b' a", "c c c / b' c' / b c' b / c' b'",
               "a b' a b' a b / a' a' a' / b", "c / c c b' a' c' c' c' a b", "b / b' b' a' a' b b a a b'")


class ShortTimes(unittest.TestCase):
    def quick(self, call):
        """Check that the call takes less than two seconds, whether or not there are too many of something."""
        begun = time.perf_counter()
        try:
            call()
        except TooMany:
            pass
        self.assertLess(time.perf_counter() - begun, 2)

    def test_of_sewings(self):
        rims = Rims([MOST])
        for call in (cheapest, in_one, all_sewings):
            self.quick(lambda: call(rims))
        for call in (handles_of, spelled_word):
            self.quick(lambda: call(MOST))
        self.quick(lambda: shows_cheapest(rims, None))
        self.quick(lambda: shows_in_one(rims, None))
        self.quick(lambda: shows_fewest(MOST, Spelling([])))

    def test_of_spellings(self):
        pairs = [tuple(LONG), tuple(LONG[::-1])] * 6
        back = Word([2] * 125 + [1] * 250 + [-2] * 125)
        for call in (lambda: product_of(pairs), lambda: product_of(pairs[:1] * 12), lambda: undone(Spelling(pairs)),
                     lambda: moved(Spelling(pairs), LONG[0]), lambda: put_in(Spelling(pairs), 1, LONG[1]),
                     lambda: put_in(Spelling([(back, back)] * 12), 1, Word([-2] * 125 + [1] + [2] * 125)),
                     lambda: shows_spelling(LONG[0], Spelling(pairs)), lambda: sewing_of(pairs),
                     lambda: rounds_spelled(Word([1, 2, 3, 4, 5]), Word([6, 7, 8, 9, 10]), 12),
                     lambda: tightened(sewing_of([(A, B), (B, A)] * 3)), lambda: spelled(sewing_of([(A, B)] * 6)),
                     lambda: tube(LONG[0], LONG[0]), lambda: tube(LONG[0], LONG[0].contrary())):
            self.quick(call)

    def test_of_squares(self):
        for call in (all_crossed, crossed_census, squares_of, square_spelled_word):
            self.quick(lambda: call(MOST_CROSSED))
        self.assertEqual(len(all_crossed(MOST_CROSSED)), 945)
        for call in (lambda: shows_squares(MOST_CROSSED, None), lambda: square_product(LONG * 6),
                     lambda: shows_square_spelling(A, SquareSpelling(LONG * 6)),
                     lambda: many_crossed(Word([1, -1] * 250)),
                     lambda: squared_ahead(LONG[0], LONG[1], LONG[0]), lambda: as_square(LONG[0])):
            self.quick(call)

    def test_of_bags(self):
        large = Rims([Word([1] * 12 + [-1] * 12)])
        bag = bag_of(Sewing(large, list(range(23, -1, -1))))
        long = [([3, 2, 1, 0] * 2000, 999999)]
        for call in (lambda: bag_of(Sewing(large, list(range(23, -1, -1)))), lambda: built(bag),
                     lambda: Bag(LOOP, long), lambda: parted_walks(Bag(LOOP, long)), lambda: times(bag, 999999),
                     lambda: built(times(bag, 999999))):
            self.quick(call)

    def test_of_walks_and_weights(self):
        large = Rims([Word([1] * 12 + [-1] * 12)])
        numbers = [999999 - 7 * at for at in range(288)]
        weights = Weights([999999] * 24, numbers, 7)
        below = [-999999] * 288
        for call in (lambda: steps_of(large), lambda: lightest(large, numbers), lambda: lightest(large, below),
                     lambda: shows_weights(large, weights), lambda: weight_bound(large, weights),
                     lambda: simple_walks(Rims.read("a a a a / a' a' a' a'")),
                     lambda: simple_walks(Rims.read("a a a a a / a' a' a' a' a'")),
                     lambda: simple_walks(Rims.read("a a' a a' a a' a a' a a'"))):
            self.quick(call)

    def test_of_many_prices(self):
        # The most walks that rims shortened round have within the bounds, or nearly so, and most turns to the price.
        slow = [Rims.read(text) for text in SLOW_PRICES]

        def all_prices():
            for made in slow * 12:
                price(made)
        self.quick(all_prices)
        half = Rims([Word([1] * 12), Word([-1] * 12)])
        walks = [((0, 12), 999999), ((1, 23), 999999)]
        self.quick(lambda: shows_price(half, Price(0, 1, walks, Weights([1] * 24, [1] * 288, 2))))

    def test_of_weighings(self):
        letters = [sign * kind for kind in range(1, 27) for sign in (1, -1)]
        flat = slope([(letter, 999999 - 37 * letter ** 2) for letter in letters])
        text = str(flat)
        self.assertLess(len(text), 20000)
        long = Bag(LOOP, [([3, 2, 1, 0] * 2000, 1)])
        made = Rims([Word(list(range(1, 13)) + [-kind for kind in range(1, 13)])])
        for call in (lambda: mistake_of(flat, list(range(1, 27))), lambda: Weighing.read(text),
                     lambda: Weighing(flat.rows), lambda: flat.added(flat.times(3)), lambda: walk_values(flat, long),
                     lambda: bar(flat, made)):
            self.quick(call)

    def test_of_turnings(self):
        made = Rims([Word([1, 2, 3] * 4 + [-1, -2, -3] * 4)])
        order = [sign * kind for kind in range(1, 14) for sign in (1, -1)]

        def many_times():
            for _ in range(20):
                best_turning(made)
                shows_turned(made, Turned((1, 2, 3, -1, -2, -3), 0))
                turning(order)
        self.quick(many_times)
        self.quick(lambda: shows_mistake(turning(order), list(range(1, 27)), None))

    def test_of_a_desk_with_long_rows_of_lines(self):
        lines = ["word n" + str(at) + " a b" for at in range(1200)] + ["turn n" + str(at) + " 1" for at in range(300)]
        desk = Desk()

        def one_by_one():
            for line in lines:
                desk(line)
            for _ in lines:
                desk.undo()
            for _ in lines:
                desk.redo()
        self.quick(one_by_one)
        self.quick(lambda: desk.told(*["names", "show n1199", "drop n0"]))
        self.quick(lambda: replay(lines))
        self.quick(lambda: merged(desk, replay(lines)))

    def test_of_asks_within_the_bounds(self):
        desk = Desk()
        kinds = list(range(1, 25))
        forty_eight = Word(kinds + [-kind for kind in kinds])
        desk.told("word m " + str(MOST), "rims r m", "word c " + str(MOST_CROSSED), "weigh v a b c a' b' c'",
                  "word h " + str(forty_eight), "word long " + str(Word([1] * 500)),
                  "word p b a' b' b' a b b a' b' a", "rims q p")
        self.assertEqual([desk("price q"), desk("parted h"), desk("handles m")], ["1/1", "notparted", "3"])
        for line in ("census r", "cheapest r", "handles m", "spelled m", "parted h", "squares c", "price q",
                     "value v r", "bar v q", "root long", "tube long long", "show long"):
            self.quick(lambda: desk(line))

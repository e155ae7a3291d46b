from fractions import Fraction

from handlerims.bag_changes import times
from handlerims.bags import Bag, bag_of
from handlerims.check_price import shows_price, shows_weights
from handlerims.errors import BadRims, Misfit
from handlerims.papers import Denial, Paper
from handlerims.price import Price, price
from handlerims.rims import Rims
from handlerims.sewings import Sewing
from handlerims.weights import Weights
from handlerims.words import Word
from tests.cases import NO_LISTS, WRONG, Case, Odd, rims
from tests.draws import Draws
from tests.priced import are_right, bag_price_by_hand, bound_by_hand
from tests.test_price import NO_RIMS, TOLD, priced, short_rims
from tests.test_weights import EVEN, ONE, TWO, drawn_weights, wrong_weights

WALKS = [((0, 3, 2, 1), 1)]


class ShownWeights(Case):
    def test_right_ones(self):
        for right in (EVEN, Weights((1, 1, 1, 1), (1, 1, 1, 1), 3), Weights([1] * 4, [1, 1, 1, 0], 3),
                      Weights([2, 1, 1, 0], [2, 3, 0, -2], 3), Weights([9, 9, 9, 9], [-1, 0, 1, 1], 1),
                      Weights([10 ** 90] * 4, [1, 1, 1, 1], 1)):
            self.assertIs(shows_weights(ONE, right), True)
        self.assertIs(shows_weights(value=EVEN, rims=ONE), True)
        # Whether or not the rims are shortened round, however many letters they have.
        self.assertIs(shows_weights(rims("a a'"), Weights([1, 1], [1, 1], 1)), True)
        self.assertIs(shows_weights(Rims([Word([1] * 12 + [-1] * 12)]), Weights([1] * 24, [1] * 288, 1)), True)

    def test_wrong_ones(self):
        for value in wrong_weights():
            self.assertIs(shows_weights(ONE, value), False)
        self.assertIs(shows_weights(rims("a a a' a'"), EVEN), False)

    def test_drawn_ones_bent(self):
        draws = Draws(850)
        right = 0
        for _ in range(60):
            made = draws.rims(1 + draws.below(3), 2 + draws.below(2), 2)
            whole = drawn_weights(draws, made)
            self.assertIs(shows_weights(made, whole), True)
            for more in (1, -1, 2):
                at, on = draws.below(made.many), draws.below(len(whole.steps))
                worths, steps = list(whole.worths), list(whole.steps)
                worths[at] += more
                steps[on] += more
                for bent in (Weights(worths, whole.steps, whole.by), Weights(whole.worths, steps, whole.by),
                             Weights(whole.worths, whole.steps, whole.by + more), Weights(worths, steps, whole.by)):
                    self.assertIs(shows_weights(made, bent), are_right(made, bent))
                    right += are_right(made, bent)
        self.assertTrue(100 < right < 600)

    def test_errors_whatever_the_value(self):
        for value in (None, EVEN, Odd()):
            self.wrong_among(lambda made: shows_weights(made, value), lambda made: BadRims("rims"), NO_RIMS)


class ShownPrice(Case):
    def test_right_ones(self):
        for right in (Price(1, 2, WALKS, EVEN), Price(1, 2, [[[3, 2, 1, 0], 7]], EVEN),
                      Price(1, 2, WALKS, Weights([4, 0, 0, 0], [4, 0, 0, 0], 4)), price(ONE),
                      Price(1, 2, [((0, 3, 2, 1), 3), ((2, 1, 0, 3), 10 ** 70)], EVEN)):
            self.assertIs(shows_price(ONE, right), True)
        self.assertIs(shows_price(value=price(TWO), rims=TWO), True)
        self.assertIs(shows_price(TWO, Price(0, 1, [((0, 2), 1), ((3, 1), 1)], Weights([1] * 4, [1] * 4, 2))), True)
        for text, _ in TOLD:
            self.assertIs(shows_price(rims(text), price(rims(text))), True)

    def test_walks_that_come_to_a_place_twice(self):
        # They cost more: with them a bag has no price that weights allow, but what is parted has.
        twice = Price(3, 4, [((0, 3, 2, 1) * 2, 1)], EVEN)
        self.assertEqual(Bag(ONE, twice.walks).price, (3, 4))
        self.assertIs(shows_price(ONE, twice), False)

    def test_bent_ones(self):
        for bent in (Price(2, 4, WALKS, EVEN), Price(-1, -2, WALKS, EVEN), Price(1, 3, WALKS, EVEN),
                     Price(True, 2, WALKS, EVEN), Price(1.0, 2, WALKS, EVEN), Price(1, 2.0, WALKS, EVEN),
                     Price(1, 2, [((0, 3, 2, 1), 0)], EVEN), Price(1, 2, [((0, 3, 2), 1)], EVEN),
                     Price(1, 2, [], EVEN), Price(1, 2, [((0, 3, 2, 1), True)], EVEN),
                     Price(1, 2, ((0, 3, 2, 1),), EVEN), Price(1, 2, bag_of(Sewing(ONE, [2, 3, 0, 1])), EVEN),
                     Price(1, 2, WALKS, Weights([1, 1, 1, 1], [1, 1, 1, 1], 3)),
                     Price(1, 3, WALKS, Weights([2, 1, 1, 0], [2, 3, 0, -2], 3)), Price(1, 2, WALKS, None),
                     Price(1, 2, WALKS, (1, 1, 1, 1)), Price(1, 2, WALKS, price(ONE)), Price(0, 1, WALKS, EVEN)):
            self.assertIs(shows_price(ONE, bent), False)
        one = rims("a / a'")
        whole = price(one)
        self.assertIs(shows_price(one, whole), True)
        for top, bottom in ((0, True), (False, 1), (0, 2), (0, -1), (0, 0), (1, 0), (0.0, 1), (-0, 1)):
            right = type(top) is int and type(bottom) is int and (top, bottom) == (0, 1)
            self.assertIs(shows_price(one, Price(top, bottom, whole.walks, whole.weights)), right)

    def test_wrong_weights(self):
        for value in wrong_weights():
            self.assertIs(shows_price(ONE, Price(1, 2, WALKS, value)), False)

    def test_any_parts_and_other_values(self):
        class Mine(Price):
            pass
        stranger = type("Price", (Paper,), {})("price", 1, 2, (((0, 3, 2, 1), 1),), EVEN)
        for value in WRONG + NO_LISTS:
            for bent in (value, Price(value, 2, WALKS, EVEN), Price(1, value, WALKS, EVEN), Price(1, 2, value, EVEN),
                         Price(1, 2, [value], EVEN), Price(1, 2, WALKS, value), Price(1, 2, [(value, 1)], EVEN),
                         Price(value, value, value, value)):
                self.assertIs(shows_price(ONE, bent), False)
        for value in (stranger, Mine(1, 2, WALKS, EVEN), EVEN, ONE, (1, 2, WALKS, EVEN), Fraction(1, 2),
                      Paper("price", 1, 2, WALKS, EVEN), Denial("price", 1, 2, WALKS, EVEN), price(TWO)):
            self.assertIs(shows_price(ONE, value), False)

    def test_drawn_ones_and_bent_ones(self):
        draws = Draws(851)
        done = 0
        for count in range(120):
            made = short_rims(draws, 1 + count % 4, 2 + draws.below(4), 1 + draws.below(3))
            if priced(made) is None:
                continue
            found = price(made)
            self.assertIs(shows_price(made, found), True)
            walks, weights = list(found.walks), found.weights
            more = 1 + draws.below(9)
            scaled = Weights([more * one for one in weights.worths], [more * one for one in weights.steps],
                             more * weights.by)
            many = times(Bag(made, walks), more).walks
            self.assertIs(shows_price(made, Price(found.top, found.bottom, many, scaled)), True)
            at = draws.below(len(walks))
            bent_walks = walks[:at] + [(walks[at][0], walks[at][1] + 1)] + walks[at + 1:]
            steps = list(weights.steps)
            steps[draws.below(len(steps))] += draws.one_of([1, -1])
            for bent in (Price(found.top + 1, found.bottom, walks, weights),
                         Price(found.top, found.bottom, bent_walks, weights),
                         Price(found.top, found.bottom, walks[1:], weights),
                         Price(found.top, found.bottom, walks, Weights(weights.worths, steps, weights.by)),
                         Price(found.top, found.bottom, walks, Weights(weights.worths, weights.steps, weights.by + 1))):
                told = Fraction(bent.top, bent.bottom)
                right = len(bent.walks) > 0 and bag_price_by_hand(made, bent.walks) == told and (
                    are_right(made, bent.weights)) and bound_by_hand(made, bent.weights) == told
                self.assertIs(shows_price(made, bent), right)
                done += not right
        self.assertGreater(done, 300)

    def test_many_letters_and_many_walks(self):
        # No walks are listed: neither many letters nor many walks are too many.
        for text in ("a b c d e f a' b' c' d' e' f'", "a a a a a a / a' a' a' a' a' a'", "a a a a / a' a' a' a'"):
            made = rims(text)
            self.assertIs(shows_price(made, None), False)
            self.assertIs(shows_price(made, Price(1, 2, WALKS, EVEN)), False)
        for many in (4, 6, 12):
            made = Rims([Word([1] * many), Word([-1] * many)])
            mates = list(range(2 * many - 1, -1, -1))
            bag = bag_of(Sewing(made, mates))
            self.assertEqual(bag.price, (0, 1))
            weights = Weights([1] * made.many, [1] * 2 * many ** 2, 2)
            self.assertIs(shows_price(made, Price(0, 1, bag.walks, weights)), True)
            self.assertIs(shows_price(made, Price(0, 1, bag.walks, Weights([1] * made.many, [1] * 2 * many ** 2, 3))),
                          False)

    def test_errors_whatever_the_value(self):
        for value in (None, price(ONE), Odd()):
            self.wrong_among(lambda made: shows_price(made, value), lambda made: BadRims("rims"), NO_RIMS)
            for text in ("a a'", "a b b' / a'", "a b c d e f a a' a' b' c' d' e' f'"):
                self.told(Misfit("short"), shows_price, rims(text), value)

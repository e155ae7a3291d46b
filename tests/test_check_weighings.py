from itertools import permutations, product

from handlerims.check_weighings import shows_bar, shows_mistake, shows_turned
from handlerims.errors import BadNumber, BadRims, BadWeighing, Misfit, TooMany, Twice
from handlerims.mistakes import AtLeast, Mistake, NoBar, bar, mistake_of, three_of
from handlerims.papers import Denial, Paper
from handlerims.turnings import Turned, best_turning, turning
from handlerims.weighings import Weighing, value_round
from handlerims.words import Word
from tests.cases import NO_LISTS, WRONG, Case, Odd, rims
from tests.draws import Draws
from tests.test_mistakes import NO_KINDS
from tests.test_price import short_rims
from tests.test_weighings import LIGHT, NO_WEIGHINGS, RING
from tests.weighed import all_letters, drawn_rows, order_table, value_by_hand

NO_RIMS = (1, Word([1, -1]), [Word([1, -1])], "a a'", LIGHT)
ORDER = (-2, -1, 2, 1)


class ShownMistakes(Case):
    def test_right_ones(self):
        for three in ([-2, -1, 2], (-1, 2, -2), (2, -2, -1)):
            self.assertIs(shows_mistake(LIGHT, [1, 2], Mistake(3, three)), True)
        self.assertIs(shows_mistake(value=Mistake(3, [-2, -1, 2]), kinds=(2, 1), weighing=LIGHT), True)
        self.assertIs(shows_mistake(LIGHT, [1], Mistake(0, [1, -1, 1])), True)
        self.assertIs(shows_mistake(LIGHT, [7], Mistake(0, (-7, -7, -7))), True)
        self.assertIs(shows_mistake(LIGHT, [1, 2], mistake_of(LIGHT, [1, 2])), True)

    def test_exactly_the_letters_that_have_it(self):
        draws = Draws(950)
        for count in range(25):
            kinds = draws.mixed(range(1, 5))[:1 + count % 3]
            made = Weighing(drawn_rows(draws, range(1, 5), 12, 3))
            found = mistake_of(made, kinds).number
            self.assertIs(shows_mistake(made, kinds, mistake_of(made, kinds)), True)
            for three in product(all_letters(kinds), repeat=3):
                number = three_of(made, *three)
                self.assertIs(shows_mistake(made, kinds, Mistake(found, three)), number == found)
                self.assertIs(shows_mistake(made, kinds, Mistake(number, three)), number == found)
                if number != found:
                    continue
                self.assertIs(shows_mistake(made, kinds, Mistake(number + 1, three)), False)
                other = [kind for kind in range(1, 27) if kind not in kinds][0]
                self.assertIs(shows_mistake(made, kinds, Mistake(number, (other,) + three[1:])), False)

    def test_bent_ones(self):
        for bent in (Mistake(3, [1, 2, -1]), Mistake(3, [2, -1, -2]), Mistake(4, [-2, -1, 2]), Mistake(3, [-2, -1]),
                     Mistake(3, [-2, -1, 2, 2]), Mistake(3.0, [-2, -1, 2]), Mistake(True, [-2, -1, 2]),
                     Mistake(3, "abc"), Mistake(3, [-2, -1, 2.0]), Mistake(3, [-2, -1, None]), Mistake(3, None),
                     Mistake(3, {-2: 1, -1: 1, 2: 1}), Mistake(3, [-2, [-1], 2]), Mistake(-3, [-2, -1, 2]),
                     Mistake(3, Word([-2, -1, 2])), Mistake(0, [1, 1, 1]), Mistake(3, [-2, 0, 2])):
            self.assertIs(shows_mistake(LIGHT, [1, 2], bent), False)
        flat = Weighing([])
        self.assertIs(shows_mistake(flat, [1], Mistake(0, [1, 1, 1])), True)
        for bent in (Mistake(False, [1, 1, 1]), Mistake(0, [True, 1, 1]), Mistake(0, [1, 1, 2]), Mistake(0, [0, 0, 0]),
                     Mistake(0, [1, 1, True]), Mistake(0, [27, 1, 1]), Mistake(0.0, [1, 1, 1])):
            self.assertIs(shows_mistake(flat, [1], bent), False)

    def test_any_parts_and_other_values(self):
        class Mine(Mistake):
            pass
        stranger = type("Mistake", (Paper,), {})("mistake", 3, (-2, -1, 2))
        for value in WRONG + NO_LISTS:
            for bent in (value, Mistake(value, [-2, -1, 2]), Mistake(3, value), Mistake(3, [-2, value, 2]),
                         Mistake(value, value)):
                self.assertIs(shows_mistake(LIGHT, [1, 2], bent), False)
        for value in (stranger, Mine(3, [-2, -1, 2]), (3, (-2, -1, 2)), Paper("mistake", 3, (-2, -1, 2)), LIGHT,
                      Denial("mistake", 3, (-2, -1, 2)), AtLeast(3, (-2, -1, 2)), 3):
            self.assertIs(shows_mistake(LIGHT, [1, 2], value), False)

    def test_errors_whatever_the_value(self):
        for value in (None, Mistake(3, [-2, -1, 2]), Odd()):
            for kinds in (None, [1, 2]):
                self.wrong_among(lambda made: shows_mistake(made, kinds, value),
                                 lambda made: BadWeighing("weighing"), NO_WEIGHINGS)
            self.wrong_among(lambda kinds: shows_mistake(LIGHT, kinds, value), lambda kinds: BadNumber("kinds"),
                             NO_KINDS)
            self.told(Twice(2), shows_mistake, LIGHT, [2, 1, 2, 1], value)


class ShownBars(Case):
    def test_right_ones(self):
        self.assertIs(shows_bar(LIGHT, RING, AtLeast(1, 3)), True)
        self.assertIs(shows_bar(value=NoBar(), rims=RING, weighing=LIGHT.times(-1)), True)
        self.assertIs(shows_bar(Weighing([]), RING, NoBar()), True)

    def test_bent_ones(self):
        for bent in (AtLeast(1, 4), AtLeast(2, 6), AtLeast(-1, -3), AtLeast(0, 1), AtLeast(True, 3), AtLeast(1.0, 3),
                     AtLeast(1, 3.0), AtLeast(3, 1), AtLeast([1], 3), NoBar(), (1, 3), Turned(1, 3)):
            self.assertIs(shows_bar(LIGHT, RING, bent), False)
        for bent in (AtLeast(0, 1), AtLeast(-1, 3), AtLeast(1, 3), None):
            self.assertIs(shows_bar(LIGHT.times(-1), RING, bent), False)
        whole = turning([-1, 2, 1, -2]).times(2)
        self.assertEqual(bar(whole, RING).parts, (1, 2))
        for bent in (AtLeast(True, 2), AtLeast(1, True), AtLeast(2, 4)):
            self.assertIs(shows_bar(whole, RING, bent), False)

    def test_drawn_ones(self):
        draws = Draws(951)
        none = 0
        for count in range(100):
            made = short_rims(draws, 1 + count % 4, 2 + draws.below(6), 1 + draws.below(3))
            weighing = Weighing(drawn_rows(draws, range(1, 4), 12, 4))
            found = bar(weighing, made)
            self.assertIs(shows_bar(weighing, made, found), True)
            self.assertIs(shows_bar(weighing, made, NoBar()), found == NoBar())
            if found:
                for top, bottom in ((found.top + 1, found.bottom), (found.top, found.bottom + 1),
                                    (2 * found.top, 2 * found.bottom), (-found.top, found.bottom)):
                    self.assertIs(shows_bar(weighing, made, AtLeast(top, bottom)), False)
            none += not found
        self.assertTrue(20 < none < 80)

    def test_any_parts_and_other_values(self):
        class Mine(AtLeast):
            pass

        class Mined(NoBar):
            pass
        one, other = type("AtLeast", (Paper,), {})("atleast", 1, 3), type("NoBar", (Denial,), {})("nobar")
        for value in WRONG + NO_LISTS:
            for bent in (value, AtLeast(value, 3), AtLeast(1, value), AtLeast(value, value)):
                self.assertIs(shows_bar(LIGHT, RING, bent), False)
                self.assertIs(shows_bar(LIGHT.times(-1), RING, bent), False)
        for value in (one, other, Mine(1, 3), Mined(), (1, 3), Paper("atleast", 1, 3), Denial("nobar"), LIGHT, RING):
            self.assertIs(shows_bar(LIGHT, RING, value), False)
            self.assertIs(shows_bar(LIGHT.times(-1), RING, value), False)

    def test_errors_whatever_the_value(self):
        for value in (None, AtLeast(1, 3), NoBar(), Odd()):
            for made in (None, RING):
                self.wrong_among(lambda weighing: shows_bar(weighing, made, value),
                                 lambda weighing: BadWeighing("weighing"), NO_WEIGHINGS)
            self.wrong_among(lambda made: shows_bar(LIGHT, made, value), lambda made: BadRims("rims"), NO_RIMS)
            self.told(Misfit("short"), shows_bar, LIGHT, rims("a b b' a'"), value)


class ShownTurned(Case):
    def test_right_ones(self):
        for at in range(4):
            order = ORDER[at:] + ORDER[:at]
            self.assertIs(shows_turned(RING, Turned(order, 8)), True)
            self.assertIs(shows_turned(RING, Turned(list(order), 8)), True)
        self.assertIs(shows_turned(value=best_turning(RING), rims=RING), True)
        self.assertIs(shows_turned(rims("a a'"), Turned([1, -1], 0)), True)

    def test_exactly_the_orders_that_have_the_greatest_value(self):
        draws = Draws(952)
        for count in range(8):
            made = draws.rims(1 + count % 4, 2 + draws.below(4), 1 + count % 3)
            kinds = sorted({abs(letter) for letter in made.letters})
            best = best_turning(made).value
            for order in permutations(all_letters(kinds)):
                value = value_by_hand(order_table(order), made)
                self.assertIs(shows_turned(made, Turned(order, value)), value == best)
                self.assertIs(shows_turned(made, Turned(order, best)), value == best)
                self.assertIs(shows_turned(made, Turned(order, value + 1)), False)

    def test_bent_ones(self):
        for bent in (Turned(ORDER, 7), Turned(ORDER, 8.0), Turned(ORDER, True), Turned(ORDER, None), Turned(ORDER, "8"),
                     Turned(ORDER[:3], 8), Turned(ORDER + (1,), 8), Turned(ORDER + (3, -3), 8), Turned((1, -1), 8),
                     Turned((1, 3, -1, -3), 8), Turned((1, 1, 2, 2), 8), Turned("abab", 8), Turned(None, 8),
                     Turned((-2, -1, 2, True), 8), Turned((-2, -1, 2, 1.0), 8), Turned((-2, -1, [2], 1), 8),
                     Turned(ORDER[::-1], 8), Turned(ORDER[::-1], -8), Turned((0, 0, 0, 0), 8), Turned((), 8),
                     Turned(turning(ORDER), 8), Turned({-2: 1, -1: 1, 2: 1, 1: 1}, 8)):
            self.assertIs(shows_turned(RING, bent), False)
        self.assertIs(shows_turned(rims("a / a'"), Turned((1, -1), False)), False)
        self.assertIs(shows_turned(rims("a / a'"), Turned((True, -1), 0)), False)

    def test_any_parts_and_other_values(self):
        class Mine(Turned):
            pass
        stranger = type("Turned", (Paper,), {})("turned", ORDER, 8)
        for value in WRONG + NO_LISTS:
            for bent in (value, Turned(value, 8), Turned(ORDER, value), Turned((-2, -1, 2, value), 8),
                         Turned(value, value)):
                self.assertIs(shows_turned(RING, bent), False)
        for value in (stranger, Mine(ORDER, 8), (ORDER, 8), Paper("turned", ORDER, 8), Denial("turned", ORDER, 8),
                      ORDER, Mistake(8, ORDER), turning(ORDER)):
            self.assertIs(shows_turned(RING, value), False)

    def test_errors_whatever_the_value(self):
        for value in (None, Turned(ORDER, 8), Odd()):
            self.wrong_among(lambda made: shows_turned(made, value), lambda made: BadRims("rims"), NO_RIMS)
            self.told(TooMany("kinds", 3), shows_turned, rims("a b c d a' b' c' d'"), value)
        self.assertEqual(value_round(turning(ORDER), RING), 8)

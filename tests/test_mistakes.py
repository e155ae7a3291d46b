from fractions import Fraction
from itertools import product

from handlerims.errors import BadNumber, BadRims, BadWeighing, Misfit, NoLetter, Twice
from handlerims.mistakes import AtLeast, Mistake, NoBar, bar, mistake_of, three_of
from handlerims.rims import Rims
from handlerims.weighings import Weighing, slope
from handlerims.words import Word
from tests.cases import WRONG, Case, Odd, rims
from tests.draws import Draws
from tests.test_price import short_rims
from tests.test_weighings import LIGHT, NO_LETTERS, NO_WEIGHINGS, RING
from tests.weighed import LETTERS, all_letters, drawn_rows, mistake_by_hand, table_of, three_by_hand, value_by_hand

NO_KINDS = ([0], [27], [-1], [1, 0], [1, True], [1, 2.0], [1, None], ["a"], 1, "ab", "1", {1: 2}, {1}, range(1, 3),
            [1, 1, 27], [[1]], Odd(), iter([1]), [10 ** 90])


class Threes(Case):
    def test_told_ones(self):
        self.assertEqual([three_of(LIGHT, -2, -1, 2), three_of(LIGHT, 2, -1, -2)], [3, -3])
        self.assertEqual(three_of(z=2, y=-1, x=-2, weighing=LIGHT), 3)
        self.assertEqual([three_of(LIGHT, 1, 1, 2), three_of(LIGHT, 1, 2, 1), three_of(LIGHT, 2, 1, 1),
                          three_of(LIGHT, 1, 1, 1), three_of(LIGHT, 3, 4, 5)], [0] * 5)

    def test_drawn_ones(self):
        draws = Draws(900)
        for _ in range(20):
            rows = drawn_rows(draws, range(1, 4), 12)
            made, table = Weighing(rows), table_of(rows)
            for x, y, z in product(all_letters(range(1, 4)), repeat=3):
                self.assertEqual(three_of(made, x, y, z), three_by_hand(table, x, y, z))

    def test_errors_in_order(self):
        for letters in ((1, 2, 3), (None, 0, 27)):
            self.wrong_among(lambda value: three_of(value, *letters), lambda value: BadWeighing("weighing"),
                             NO_WEIGHINGS)
        for other in (1, None, 0):
            self.wrong_among(lambda value: three_of(LIGHT, value, other, other), NoLetter, NO_LETTERS)
            self.wrong_among(lambda value: three_of(LIGHT, 1, value, other), NoLetter, NO_LETTERS)
        self.wrong_among(lambda value: three_of(LIGHT, 1, 2, value), NoLetter, NO_LETTERS)


class Mistakes(Case):
    def test_told_ones(self):
        found = mistake_of(LIGHT, [2, 1])
        self.assertEqual((found.number, found.word, found.parts), (3, "mistake", (3, found.three)))
        self.assertEqual(three_of(LIGHT, *found.three), 3)
        self.assertEqual(mistake_of(LIGHT, [1]).number, 0)
        self.assertEqual(mistake_of(kinds=(3, 4), weighing=LIGHT).number, 0)

    def test_drawn_ones_by_all_threes(self):
        draws = Draws(901)
        zero = 0
        for count in range(120):
            kinds = draws.mixed(range(1, 27))[:1 + count % 3]
            rows = drawn_rows(draws, kinds, draws.below(12), 5)
            made = Weighing(rows)
            table = table_of(rows)
            for some in (kinds, kinds[::-1], kinds[:1], kinds[-2:], [kind for kind in range(1, 27)
                                                                     if kind not in kinds][:2], kinds[1:] + [26]):
                if len(set(some)) < len(some):
                    continue
                found = mistake_of(made, some)
                self.assertIs(type(found), Mistake)
                self.assertEqual(found.number, mistake_by_hand(table, some))
                self.assertEqual(three_by_hand(table, *found.three), found.number)
                self.assertTrue(all(abs(letter) in some for letter in found.three))
                self.assertEqual((len(found.three), type(found.three)), (3, tuple))
                self.assertGreaterEqual(found.number, 0)
                zero += found.number == 0
        self.assertGreater(zero, 20)

    def test_more_kinds_than_stand_anywhere_and_all_of_them(self):
        every = list(range(26, 0, -1))
        self.assertEqual(mistake_of(LIGHT, every).number, mistake_of(LIGHT, [1, 2, 3]).number)
        self.assertEqual(mistake_of(Weighing([]), every).number, 0)
        self.assertEqual(mistake_of(Weighing([]), [26]).parts[0], 0)
        self.assertEqual(mistake_of(slope([(letter, letter ** 2 + letter) for letter in LETTERS]), every).number, 0)

    def test_equal_calls_equal_papers(self):
        self.assertEqual(mistake_of(LIGHT, [1, 2]), mistake_of(LIGHT, (1, 2)))

    def test_large_numbers(self):
        self.assertEqual(mistake_of(LIGHT.times(-10 ** 90), [1, 2]).number, 3 * 10 ** 90)

    def test_errors_in_order(self):
        for kinds in (None, [1], [1, 1]):
            self.wrong_among(lambda value: mistake_of(value, kinds), lambda value: BadWeighing("weighing"),
                             NO_WEIGHINGS)
        self.wrong_among(lambda value: mistake_of(LIGHT, value), lambda value: BadNumber("kinds"), NO_KINDS)
        for value in WRONG:
            self.told(BadNumber("kinds"), mistake_of, LIGHT, [1, value])
            self.told(BadNumber("kinds"), mistake_of, LIGHT, [1, 1, value])
        self.told(Twice(1), mistake_of, LIGHT, [1, 1])
        self.told(Twice(2), mistake_of, LIGHT, (1, 2, 2, 1))
        self.told(Twice(26), mistake_of, LIGHT, [26, 1, 3, 26, 26])


class Bars(Case):
    def test_told_ones(self):
        self.assertEqual(bar(LIGHT, RING).parts, (1, 3))
        self.assertEqual((bar(LIGHT, RING).top, bar(LIGHT, RING).bottom), (1, 3))
        self.assertEqual(bar(LIGHT, RING), AtLeast(1, 3))
        self.assertEqual(bar(rims=RING, weighing=LIGHT.times(-1)), NoBar())
        # A value of 0 sets none either.
        self.assertEqual(bar(Weighing([]), RING).word, "nobar")
        self.assertEqual(bar(LIGHT, rims("a b / b' a'")), bar(LIGHT, rims("b' a' / a b")))

    def test_only_mistakes_for_the_kinds_of_the_rims(self):
        more = LIGHT.added(Weighing([(3, 1, 1000), (3, 3, -7)]))
        self.assertEqual(bar(more, RING).parts, (1, 3))
        self.assertLess(Fraction(*bar(more, rims("a b a' b' / c / c'")).parts), Fraction(1, 3))

    def test_drawn_ones(self):
        draws = Draws(902)
        bars = none = 0
        for count in range(200):
            made = short_rims(draws, 1 + count % 4, 2 + draws.below(6), 1 + draws.below(3))
            rows = drawn_rows(draws, range(1, 4), 4 + draws.below(8), 4)
            table = table_of(rows)
            value = value_by_hand(table, made)
            found = bar(Weighing(rows), made)
            if value > 0:
                kinds = sorted({abs(letter) for letter in made.letters})
                told = Fraction(value, 4 * mistake_by_hand(table, kinds))
                self.assertEqual(found, AtLeast(told.numerator, told.denominator))
                bars += 1
            else:
                self.assertEqual(found, NoBar())
                none += 1
        self.assertGreater(min(bars, none), 50)

    def test_many_letters_and_kinds(self):
        made = Rims([Word(list(range(1, 13)) + [-kind for kind in range(1, 13)])])
        rows = [(kind, kind + 1, 10 ** 60) for kind in range(1, 12)]
        told = Fraction(11 * 10 ** 60, 4 * mistake_by_hand(table_of(rows), range(1, 13)))
        self.assertEqual(bar(Weighing(rows), made), AtLeast(told.numerator, told.denominator))

    def test_errors_in_order(self):
        for made in (None, RING):
            self.wrong_among(lambda value: bar(value, made), lambda value: BadWeighing("weighing"), NO_WEIGHINGS)
        self.wrong_among(lambda value: bar(LIGHT, value), lambda value: BadRims("rims"),
                         (1, Word([1, -1]), [Word([1, -1])], "a a'", LIGHT))
        for text in ("a a'", "a b a' / b'", "a b b' / a'", "a b a' b' / c c'"):
            if not rims(text).is_short:
                self.told(Misfit("short"), bar, LIGHT, rims(text))
                self.told(Misfit("short"), bar, LIGHT.times(-1), rims(text))

from handlerims.checks import (are_integers, common_divisor, first_twice, is_integer, is_letter, is_listed, is_name,
                               is_within, lowest)
from handlerims.errors import BadNumber
from tests.cases import WRONG, Case
from tests.draws import Draws


class Values(Case):
    def test_integers(self):
        for value in (0, 1, -1, 10 ** 700, -10 ** 700):
            self.assertIs(is_integer(value), True)
        for value in WRONG:
            self.assertIs(is_integer(value), False)

    def test_within(self):
        for value, least, most, answer in (
                (3, 3, 3, True), (2, 3, 5, False), (6, 3, 5, False), (5, 3, 5, True), (3, 3, 5, True), (3, 4, 2, False),
                (-10 ** 80, None, 0, True), (1, None, 0, False), (10 ** 80, 0, None, True), (-1, 0, None, False),
                (7, None, None, True), (0, 0, 0, True)):
            self.assertIs(is_within(value, least, most), answer)
        for value in WRONG:
            for least, most in ((None, None), (0, 1), (None, 5), (-5, None)):
                self.assertIs(is_within(value, least, most), False)

    def test_letters(self):
        right = [value for value in range(-30, 31) if is_letter(value)]
        self.assertEqual(right, [value for value in range(-26, 27) if value != 0])
        for value in WRONG + (10 ** 90, -10 ** 90):
            self.assertIs(is_letter(value), False)

    def test_names(self):
        for value in ("a", "z", "a1", "abcdefghijkl", "z99999999999", "m0"):
            self.assertIs(is_name(value), True)
        for value in ("", "1", "1a", "A", "aB", "a_", "a b", "a'", "abcdefghijklm", "-", "a-", " a", "a ", "a\n",
                      "\u00e4", "a\u0663", "\uff41", "a\u00b2"):
            self.assertIs(is_name(value), False)
        for value in WRONG + (1, ["a"], ("a",), b"ab"):
            if not isinstance(value, str):
                self.assertIs(is_name(value), False)

    def test_names_of_1_12_and_13_signs(self):
        self.assertEqual([is_name("b" * many) for many in (0, 1, 12, 13, 20000)], [False, True, True, False, False])

    def test_listed(self):
        for value in ([], (), [1], (None,), [[]]):
            self.assertIs(is_listed(value), True)
        for value in (None, True, "", "ab", {}, {1}, range(2), b"a", 3, iter([])):
            self.assertIs(is_listed(value), False)

    def test_lists_of_integers(self):
        for value in ([], (), [0], (1, -2, 10 ** 90)):
            self.assertIs(are_integers(value), True)
        for value in ([True], [1, False], [1.0], ["1"], [[1]], (1, None), {1}, {1: 1}, range(3), "12", 3, None):
            self.assertIs(are_integers(value), False)

    def test_first_twice(self):
        for values, answer in (([], None), ([1], None), ([1, 2, 1], 1), ([3, 2, 2, 3], 2), (["b", "a", "b", "a"], "b"),
                               ((-1, -2, -1), -1), ([0, 0], 0), (["", ""], ""), ([1, "1"], None)):
            self.assertEqual(first_twice(values), answer)

    def test_first_twice_changes_nothing(self):
        values = [4, 4, 1]
        first_twice(values)
        self.assertEqual(values, [4, 4, 1])


class Fractions(Case):
    def test_divisors_by_trying_all(self):
        for one in range(-12, 13):
            for other in range(-12, 13):
                both = [by for by in range(1, 13) if one % by == 0 and other % by == 0]
                answer = 0 if one == other == 0 else max(both)
                self.assertEqual(common_divisor(one=one, other=other), answer)

    def test_large_divisors(self):
        self.assertEqual(common_divisor(6 * 10 ** 80, -4 * 10 ** 80), 2 * 10 ** 80)
        self.assertEqual(common_divisor(0, -10 ** 80), 10 ** 80)

    def test_lowest_terms(self):
        draws = Draws(1)
        for _ in range(300):
            top, bottom = draws.below(200) - 100, draws.below(200) - 100
            if bottom != 0:
                low, high = lowest(top=top, bottom=bottom)
                self.assertEqual(low * bottom, high * top)
                self.assertGreater(high, 0)
                self.assertEqual(common_divisor(low, high), 1)

    def test_lowest_at_the_edges(self):
        self.assertEqual(lowest(0, -7), (0, 1))
        self.assertEqual(lowest(-4, -2), (2, 1))
        self.assertEqual(lowest(10 ** 90, -10 ** 89), (-10, 1))
        self.assertIs(type(lowest(1, 2)), tuple)

    def test_wrong_numbers(self):
        self.wrong_among(lambda value: common_divisor(value, value), lambda value: BadNumber("one"), ([1], [1, 2]))
        self.wrong_among(lambda value: common_divisor(1, value), lambda value: BadNumber("other"), ([1],))
        self.wrong_among(lambda value: lowest(value, value), lambda value: BadNumber("top"), ([1],))
        self.wrong_among(lambda value: lowest(1, value), lambda value: BadNumber("bottom"), ([1], 0))
        self.told(BadNumber("top"), lowest, True, 0)

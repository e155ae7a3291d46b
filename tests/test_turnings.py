from itertools import permutations, product

from handlerims.errors import BadRims, BadWeighing, TooMany
from handlerims.rims import Rims
from handlerims.turnings import Turned, best_turning, turning
from handlerims.weighings import Weighing, value_round
from handlerims.words import Word
from tests.cases import NO_LISTS, WRONG, Case, Odd, rims
from tests.draws import Draws
from tests.test_weighings import LIGHT, RING
from tests.weighed import LETTERS, all_letters, order_table, value_by_hand

NO_ORDERS = ([], [1], [1, 2], [1, -1, 2], [1, 1], [1, -1, 1, -1], [1, -1, -1, 1], [0, 0], [1, -1, 0], [27, -27],
             [1, True], [True, -1], [1, -1.0], [1, "a'"], ["a", "a'"], [1, -1, None], [[1], [-1]], 1, "a a'",
             {1: -1, -1: 1}, {1, -1}, (1,), list(range(1, 15)) + list(range(-14, 0)), [1, -1, 2, -3], [1, -2],
             iter([1, -1]), LIGHT, RING, Word([1, -1]), [1, 10 ** 90, -1, -(10 ** 90)])


def best_by_hand(made):
    """The greatest value of all orders, each taken from its least letter on, and the first order that has it."""
    letters = all_letters(sorted({abs(letter) for letter in made.letters}))
    least = min(letters)
    found = []
    for order in permutations(letters):
        if order[0] == least:
            found.append((-value_by_hand(order_table(order), made), order))
    value, order = min(found)
    return -value, order


class Turnings(Case):
    def test_told_ones(self):
        turn = turning([-1, 2, 1, -2])
        self.assertIs(type(turn), Weighing)
        self.assertEqual([turn.at(1, 2), turn.at(1, 1), value_round(turn, RING)], [2, 0, 8])
        self.assertEqual(str(turning(order=(1, 2, -1, -2))), "b' a' 2 / b' a -2 / a' b' -2 / a b' 2")
        # Of two letters each stands half round behind its contrary.
        self.assertEqual(turning([1, -1]).rows, ())
        self.assertEqual(turning([-26, 26]), Weighing([]))

    def test_steps_round_drawn_orders(self):
        draws = Draws(930)
        for count in range(60):
            kinds = draws.mixed(range(1, 27))[:1 + count % 5]
            order = draws.mixed(all_letters(kinds))
            made, table = turning(order), order_table(order)
            for first, second in product(all_letters(kinds), repeat=2):
                self.assertEqual(made.at(first, second), table.get((first, second), 0))
            others = [letter for letter in LETTERS if abs(letter) not in kinds]
            for _ in range(10):
                self.assertEqual(made.at(draws.one_of(others), draws.one_of(LETTERS)), 0)
                self.assertEqual(made.at(draws.one_of(order), draws.one_of(others)), 0)
            self.assertTrue(all(abs(number) < len(order) for _, _, number in made.rows))

    def test_thirteen_kinds(self):
        draws = Draws(931)
        for kinds in (range(1, 14), range(14, 27), range(1, 27, 2)):
            order = draws.mixed(all_letters(kinds))
            made, table = turning(order), order_table(order)
            self.assertEqual(len(order), 26)
            for first, second in product(order, repeat=2):
                self.assertEqual(made.at(first, second), table.get((first, second), 0))

    def test_begun_elsewhere_it_is_the_same(self):
        order = [3, -1, 2, 1, -3, -2]
        for at in range(6):
            self.assertEqual(turning(order[at:] + order[:at]), turning(order))

    def test_wrong_orders(self):
        for value in NO_ORDERS + NO_LISTS + ((), []):
            self.told(BadWeighing("order"), turning, value)
        for value in WRONG:
            self.told(BadWeighing("order"), turning, [1, value])
            self.told(BadWeighing("order"), turning, [value, -1, 1])

    def test_what_is_passed_stays(self):
        order = [1, 2, -1, -2]
        turning(order)
        self.assertEqual(order, [1, 2, -1, -2])


class Best(Case):
    def test_told_ones(self):
        found = best_turning(RING)
        self.assertIs(type(found), Turned)
        self.assertEqual(found.parts, ((-2, -1, 2, 1), 8))
        self.assertEqual((found.order, found.value, found.word), ((-2, -1, 2, 1), 8, "turned"))
        self.assertEqual(best_turning(rims=rims("a / a'")).parts, ((-1, 1), 0))
        self.assertEqual(best_turning(rims("z z / z' z'")).order, (-26, 26))
        # Not shortened round, too: contraries side by side count nothing.
        self.assertEqual(best_turning(rims("a a'")).parts, ((-1, 1), 0))
        self.assertEqual(best_turning(rims("a b b' a'")).value, best_by_hand(rims("a b b' a'"))[0])

    def test_drawn_ones_against_all_orders(self):
        draws = Draws(932)
        for count in range(40):
            kinds = 1 + count % 3
            made = draws.rims(1 + count % 4, 2 + draws.below(4), kinds)
            names = draws.mixed(range(1, 27))
            made = Rims([Word([names[abs(one)] * (1 if one > 0 else -1) for one in word.letters])
                         for word in made.words])
            found = best_turning(made)
            value, order = best_by_hand(made)
            self.assertEqual((found.order, found.value), (order, value))
            self.assertEqual(value_round(turning(found.order), made), value)
            self.assertGreaterEqual(found.value, 0)

    def test_errors_in_order(self):
        others = (1, Word([1, -1]), [Word([1, -1])], "a a'", Odd())
        self.wrong_among(best_turning, lambda value: BadRims("rims"), others)
        for text in ("a b c d a' b' c' d'", "a / a' / b b' / c d c' d'", "w x y z / z' y' x' w'"):
            self.told(TooMany("kinds", 3), best_turning, rims(text))
        twelve = list(range(1, 13))
        self.told(TooMany("kinds", 3), best_turning, Rims([Word(twelve + [-kind for kind in twelve])]))

from handlerims.errors import BadRims, TooMany
from handlerims.rims import Rims
from handlerims.walks import simple_walks, steps_of, walks_within
from handlerims.words import Word
from tests.cases import Case, Odd, rims
from tests.draws import Draws
from tests.priced import steps_by_hand, walks_by_hand

NO_RIMS = (1, Word([1, -1]), [Word([1, -1])], "a a'", Odd())


class Steps(Case):
    def test_told_ones(self):
        self.assertEqual(steps_of(rims("a b a' b'")), ((0, 2, 3), (1, 3, 0), (2, 0, 1), (3, 1, 2)))
        self.assertEqual(steps_of(rims=rims("a a'")), ((0, 1, 0), (1, 0, 1)))
        self.assertEqual(steps_of(rims("a / a'")), ((0, 1, 1), (1, 0, 0)))
        self.assertEqual(steps_of(rims("a a / a' a'")), ((0, 2, 3), (0, 3, 2), (1, 2, 3), (1, 3, 2),
                                                         (2, 0, 1), (2, 1, 0), (3, 0, 1), (3, 1, 0)))

    def test_drawn_ones(self):
        draws = Draws(810)
        for count in range(150):
            made = draws.rims(1 + count % 4, 2 + draws.below(11), 1 + draws.below(4))
            self.assertEqual(steps_of(made), tuple(steps_by_hand(made)))
        large = Rims([Word([1] * 12 + [-1] * 12)])
        self.assertEqual(len(steps_of(large)), 288)

    def test_wrong_rims(self):
        self.wrong_among(steps_of, lambda value: BadRims("rims"), NO_RIMS)


class Simple(Case):
    def test_told_ones(self):
        self.assertEqual(simple_walks(rims("a b a' b'")), ((0, 3, 2, 1),))
        self.assertEqual(simple_walks(rims("a b / b' a'")), ((0, 2), (1, 3)))
        self.assertEqual(simple_walks(rims=rims("a a'")), ((0,), (1,)))
        self.assertEqual(len(simple_walks(rims("a a b a' a' b'"))), 6)
        self.assertEqual(simple_walks(rims("a a a' a'")), ((0,), (0, 3, 1), (0, 3, 2, 1), (1, 3),
                                                                    (1, 3, 2), (2,)))

    def test_drawn_ones_made_another_way(self):
        draws = Draws(811)
        loose = 0
        for count in range(250):
            made = draws.rims(1 + count % 4, 2 + draws.below(3), 1 + draws.below(3))
            found = walks_by_hand(made)
            self.assertEqual(simple_walks(made), tuple(found))
            loose += not made.is_short
        self.assertGreater(loose, 50)

    def test_ten_letters_made_another_way(self):
        draws = Draws(812)
        few = 0
        for count in range(25):
            made = draws.rims(1 + count % 4, 5, 3)
            found = walks_by_hand(made)
            if len(found) > 500:
                self.told(TooMany("walks", 500), simple_walks, made)
            else:
                self.assertEqual(simple_walks(made), tuple(found))
                few += 1
        self.assertGreater(few, 15)

    def test_letters_told_ahead_of_walks(self):
        for text in ("a a a a a a / a' a' a' a' a' a'", "a b c d e f a' b' c' d' e' f'"):
            self.told(TooMany("letters", 10), simple_walks, rims(text))
        self.told(TooMany("letters", 10), simple_walks, Rims([Word([1] * 12 + [-1] * 12)]))
        ten = rims("a b c d e / e' d' c' b' a'")
        self.assertEqual(simple_walks(ten), ((0, 5), (1, 9), (2, 8), (3, 7), (4, 6)))

    def test_more_walks_than_are_listed(self):
        # From each letter to each contrary, and back: walks of so many of both, in all orders.
        five, four = rims("a a a a a / a' a' a' a' a'"), rims("a a a a / a' a' a' a'")
        self.told(TooMany("walks", 500), simple_walks, five)
        self.assertEqual(len(simple_walks(four)), 16 * 1 + 36 * 2 + 16 * 12 + 144)
        self.assertEqual(simple_walks(four), tuple(walks_by_hand(four)))

    def test_the_most_that_rims_of_ten_letters_have(self):
        for text, most in (("b a' b' b' a b b a' b' a", 145), ("a a / b b / a / b' a' b' a' a'", 147)):
            self.assertEqual(len(walks_by_hand(rims(text))), most)
            self.assertEqual(len(simple_walks(rims(text))), most)
        draws = Draws(813)
        numbers = set()
        for count in range(1000):
            made = draws.rims(1 + count % 4, 5, 1 + draws.below(2))
            try:
                numbers.add(len(simple_walks(made)))
            except TooMany as told:
                self.assertEqual((told.what, told.most), ("walks", 500))
                numbers.add(501)
        self.assertTrue({424, 425, 426, 501} & numbers)
        self.assertIn(501, numbers)
        self.assertGreater(len(numbers), 20)

    def test_just_so_many_walks(self):
        # No rims of ten letters have just 500 walks, or 501: fewer are asked for.
        for text, many in (("a b a' b'", 1), ("a a b a' a' b'", 6), ("b a' b' b' a b b a' b' a", 145)):
            self.assertEqual(walks_within(rims(text), many), simple_walks(rims(text)))
            self.told(TooMany("walks", many - 1), walks_within, rims(text), many - 1)

    def test_wrong_rims(self):
        self.wrong_among(simple_walks, lambda value: BadRims("rims"), NO_RIMS)

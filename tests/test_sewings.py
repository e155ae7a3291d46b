from math import factorial, prod

from handlerims.errors import BadRims, BadSewing, TooMany
from handlerims.rims import Rims
from handlerims.sewings import Sewing, all_sewings, census, many_sewings
from handlerims.words import Word
from tests import sewn
from tests.cases import WRONG, Case, rims
from tests.draws import Draws

LOOP = rims("a b a' b'")


def six_of_one_kind(more):
    """Rims with 720 sewings, or with more of them if there is one more of a second kind twice."""
    return Rims([Word([1] * 6 + [-1] * 6 + more)])


class Made(Case):
    def test_attributes(self):
        sewing = Sewing(rims("a / a' / b / b'"), [1, 0, 3, 2])
        self.assertEqual(sewing.rims, rims("a / a' / b / b'"))
        self.assertEqual(sewing.mates, (1, 0, 3, 2))
        self.assertEqual(sewing.corners, ((0, 1), (2, 3)))
        self.assertEqual((sewing.cost, sewing.pieces, sewing.handles), (0, ((0, 1), (2, 3)), 0))
        for value in (sewing.mates, sewing.corners, sewing.corners[0], sewing.pieces, sewing.pieces[0]):
            self.assertIs(type(value), tuple)

    def test_costs_below_0(self):
        sewing = Sewing(rims("a a'"), (1, 0))
        self.assertEqual((sewing.corners, sewing.cost, sewing.handles), (((0,), (1,)), -1, 0))
        four = Sewing(rims("a a' / b b' / c c' / d d'"), [1, 0, 3, 2, 5, 4, 7, 6])
        self.assertEqual((four.cost, four.pieces, four.handles), (-4, ((0,), (1,), (2,), (3,)), 0))

    def test_pieces_by_way_of_other_rims(self):
        for text, mates, pieces in (
                ("a b / a' / b'", [2, 3, 0, 1], ((0, 1, 2),)), ("a / b / a' b'", [2, 3, 0, 1], ((0, 1, 2),)),
                ("a / b / b' / a'", [3, 2, 1, 0], ((0, 3), (1, 2))), ("a a' / b / b'", [1, 0, 3, 2], ((0,), (1, 2))),
                ("a / a' b / b' c / c'", [1, 0, 3, 2, 5, 4], ((0, 1, 2, 3),)),
                ("a / b / a' / b'", [2, 3, 0, 1], ((0, 2), (1, 3)))):
            self.assertEqual(Sewing(rims(text), mates).pieces, pieces)

    def test_a_word_of_one_letter_is_its_own_next(self):
        sewing = Sewing(rims("a / a'"), [1, 0])
        self.assertEqual((sewing.corners, sewing.cost, sewing.handles), (((0, 1),), 0, 0))

    def test_equal(self):
        one = Sewing(LOOP, [2, 3, 0, 1])
        self.assertTrue(one == Sewing(rims=rims("a b a' b'"), mates=(2, 3, 0, 1)))
        twice = rims("a a a' a'")
        for here, other in ((Sewing(twice, [2, 3, 0, 1]), Sewing(twice, [3, 2, 1, 0])), (one, LOOP), (one, None),
                            (one, (2, 3, 0, 1)), (one, Sewing(rims("a / b / a' b'"), [2, 3, 0, 1])), (one, "x")):
            self.assertIs(here == other, False)
            self.assertIs(here != other, True)

    def test_equal_words_in_another_order(self):
        self.assertFalse(Sewing(rims("a / a' / a / a'"), [1, 0, 3, 2]) == Sewing(rims("a' / a / a' / a"), [1, 0, 3, 2]))
        self.assertTrue(Sewing(rims("a / a' / a / a'"), [1, 0, 3, 2]) != Sewing(rims("a / a' / a / a'"), [3, 2, 1, 0]))

    def test_wrong_mates(self):
        for value in WRONG + (1, [2, 3, 0], [2, 3, 0, 1, 1], [0, 1, 2, 3], [3, 2, 1, 0], [2, 3, 2, 1], [2, 2, 0, 1],
                              [2, 3, 0, -3], [-2, 3, 0, 1], [2, 3, 0, 4], [2, 3, False, True], [2, 3, 0, True],
                              [2, 3, 0, 1.0], [2, 3, 0, None], [2, 3, 0, "1"], "2301", {0: 2}, [2, 10 ** 90, 0, 1],
                              [[2, 3, 0, 1]], {2, 3, 0, 1}, [4, 3, 0, 1], [2, -1, 0, 1], [-1, 3, 0, 1],
                              [1, 0, 3, 2], Sewing(LOOP, [2, 3, 0, 1])):
            self.told(BadSewing("mates"), Sewing, LOOP, value)
        # 1 has the mate 2, and this one another.
        self.told(BadSewing("mates"), Sewing, rims("a a a' a'"), [2, 2, 1, 0])
        self.told(BadSewing("mates"), Sewing, rims("a a a' a'"), [1, 0, 3, 2])

    def test_rims_come_first(self):
        self.wrong_among(lambda value: Sewing(value, None), lambda value: BadRims("rims"), (1, Word([1]), "a a'", [1]))

    def test_what_is_passed_is_copied(self):
        mates = [2, 3, 0, 1]
        sewing = Sewing(LOOP, mates)
        mates[0] = 9
        self.assertEqual(sewing.mates, (2, 3, 0, 1))


class All(Case):
    def test_all_against_a_list_made_another_way(self):
        draws = Draws(33)
        for count in range(120):
            made = draws.rims(1 + count % 4, 2 + draws.below(4), 1 + draws.below(3))
            found = all_sewings(made)
            self.assertIs(type(found), tuple)
            self.assertEqual([sewing.mates for sewing in found], sewn.all_mates(made.letters))
            self.assertEqual(many_sewings(made), len(found))
            costs = {}
            for sewing in found:
                self.assertEqual(sewing.rims, made)
                self.assertEqual(sewing.cost, sewn.cost_of(made.words, sewing.mates))
                self.assertEqual([list(piece) for piece in sewing.pieces], sewn.pieces_of(made.words, sewing.mates))
                costs[sewing.cost] = costs.get(sewing.cost, 0) + 1
            self.assertEqual(census(made), tuple(sorted(costs.items())))

    def test_corners_lead_round(self):
        draws = Draws(34)
        for count in range(100):
            made = draws.rims(1 + count % 4, 2 + draws.below(11), 4)
            mates = draws.mates(made)
            sewing = Sewing(made, mates)
            self.assertEqual(sorted(place for corner in sewing.corners for place in corner), list(range(made.many)))
            self.assertEqual(list(sewing.corners), sorted(sewing.corners))
            for corner in sewing.corners:
                self.assertEqual(corner[0], min(corner))
                for at, place in enumerate(corner):
                    self.assertEqual(made.next(mates[place]), corner[(at + 1) % len(corner)])

    def test_720_and_more_sewings(self):
        most = six_of_one_kind([2, 3, 4, 5, 6, 7, -2, -3, -4, -5, -6, -7])
        self.assertEqual((most.many, many_sewings(most)), (24, 720))
        found = all_sewings(most)
        self.assertEqual(len(found), 720)
        self.assertEqual([one.mates for one in found], sewn.all_mates(most.letters))
        self.assertEqual(sum(many for _, many in census(most)), 720)
        for more, many in (([2, 2, -2, -2], 1440), ([1, -1], 5040)):
            large = six_of_one_kind(more)
            self.assertEqual(many_sewings(large), many)
            self.told(TooMany("sewings", 720), all_sewings, large)
            self.told(TooMany("sewings", 720), census, large)

    def test_many_however_many(self):
        for text, many in (("a a'", 1), ("a / a'", 1), ("a a / a' a'", 2), ("a b a' b'", 1), ("a a' b b' b b'", 2)):
            self.assertEqual(many_sewings(rims(text)), many)
        self.assertEqual(many_sewings(rims=Rims([Word([1] * 12), Word([-1] * 12)])), factorial(12))
        counts = [3, 4, 5]
        letters = [sign * (at + 1) for at, many in enumerate(counts) for sign in (1, -1) for _ in range(many)]
        self.assertEqual(many_sewings(Rims([Word(letters)])), prod(factorial(many) for many in counts))

    def test_wrong_rims(self):
        for call in (all_sewings, census, many_sewings):
            self.wrong_among(call, lambda value: BadRims("rims"), (1, Word([1, -1]), [Word([1, -1])], "a a'"))

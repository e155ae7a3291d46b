from handlerims.cheapest import Cheapest, InOne, cheapest, in_one
from handlerims.errors import BadRims, TooMany
from handlerims.rims import Rims
from handlerims.sewings import Sewing, many_sewings
from handlerims.words import Word
from tests import sewn
from tests.cases import Case, rims
from tests.draws import Draws


def handles_by_pieces(words, mates):
    """The handles of a sewing, by its pieces and joined points."""
    return (2 * len(sewn.pieces_of(words, mates)) - len(words) + sewn.cost_of(words, mates)) // 2


class Both(Case):
    def test_costs_and_handles(self):
        for text, cost, handles in (
                ("a a'", -1, 0), ("a / a'", 0, 0), ("a b a' b'", 1, 1), ("a b / b' a'", 0, 0), ("a / b / b' a'", 1, 0),
                ("a b a' b' / a b a' b'", 2, 1), ("a b a' b' / c d c' d'", 2, 2), ("a / a' / b / b'", 0, 0),
                ("a a / a' a'", 0, 0), ("a b / a' b'", 0, 0), ("a a' / b b'", -2, 0), ("a / a / a' a'", 1, 0),
                ("a / b / c / c' b' a'", 2, 0), ("a a / b b / a' b' / a' b'", 2, 0), ("a b a' b' a b a' b'", 3, 2)):
            found, one = cheapest(rims(text)), in_one(rims=rims(text))
            self.assertEqual((found.cost, one.handles), (cost, handles))

    def test_the_least_of_all_made_another_way(self):
        draws = Draws(92)
        for count in range(160):
            made = draws.rims(1 + count % 4, 2 + draws.below(4), 1 + draws.below(3))
            every = sewn.all_mates(made.letters)
            found, one = cheapest(rims=made), in_one(made)
            self.assertEqual(found.cost, min(sewn.cost_of(made.words, mates) for mates in every))
            self.assertEqual(one.handles, min(handles_by_pieces(made.words, mates) for mates in every))
            self.assertEqual(sewn.cost_of(made.words, found.mates), found.cost)
            self.assertEqual(handles_by_pieces(made.words, one.mates), one.handles)
            for paper, again, of_class in ((found, cheapest(Rims(made.words)), Cheapest),
                                           (one, in_one(Rims(list(made.words))), InOne)):
                self.assertIs(type(paper), of_class)
                self.assertEqual(paper, again)
                self.assertIs(type(paper.mates), tuple)
                self.assertIn(paper.mates, every)

    def test_720_and_more_sewings(self):
        letters = [1] * 6 + [2, 3, 4, 5, 6, 7] + [-1] * 6 + [-2, -3, -4, -5, -6, -7]
        for cuts in ([24], [12, 24], [8, 16, 24], [1, 2, 3, 24]):
            made = Rims([Word(letters[start:end]) for start, end in zip([0] + cuts, cuts)])
            self.assertEqual(many_sewings(made), 720)
            self.assertEqual(Sewing(made, cheapest(made).mates).cost, cheapest(made).cost)
            self.assertEqual(Sewing(made, in_one(made).mates).handles, in_one(made).handles)
        for made in (Rims([Word([1] * 7 + [-1] * 7)]), Rims([Word([1] * 6 + [2] * 2), Word([-1] * 6 + [-2] * 2)]),
                     Rims([Word([1] * 12), Word([-1] * 12)])):
            for call in (cheapest, in_one):
                self.told(TooMany("sewings", 720), call, made)

    def test_wrong_rims(self):
        for call in (cheapest, in_one):
            self.wrong_among(call, lambda value: BadRims("rims"), (1, Word([1, -1]), [Word([1, -1])], "a a'"))

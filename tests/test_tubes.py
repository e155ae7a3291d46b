from handlerims.errors import BadRims, BadWord, Misfit
from handlerims.rims import Rims
from handlerims.tubes import NoTube, Tube, tube, tubes_of
from handlerims.words import Word
from tests.cases import Case, rims, words
from tests.draws import Draws


def turns(one, other):
    """All places at which the contrary of the one begins to be the other, both shortened round."""
    here = one.shortened_round().contrary().letters
    return [at for at in range(len(here)) if here[at:] + here[:at] == other.shortened_round().letters]


def filled_rings(draws, many, letters, kinds):
    """Words that are short round and not empty."""
    found = []
    while len(found) < many:
        word = draws.word(letters, kinds).shortened_round()
        if len(word) > 0:
            found.append(word)
    return found


class Tubes(Case):
    def test_tubes(self):
        for one, other, turn in (("a", "a'", 0), ("a b", "b' a'", 0), ("a b", "a' b'", 1), ("a b b", "b' a' b'", 1),
                                 ("a a", "a' a'", 0), ("a b a b", "a' b' a' b'", 1), ("c a c'", "a'", 0),
                                 ("a b c", "c' b' a'", 0), ("a b c", "a' c' b'", 2), ("a b c", "b' a' c'", 1),
                                 ("a b a' b'", "b a b' a'", 0), ("a a b b' b", "c b' a' a' c'", 0)):
            self.assertEqual(tube(*words(one, other)), Tube(turn))
        self.assertEqual(tube(other=Word([-1, -2]), one=Word([1, 2])).turn, 1)

    def test_no_tubes(self):
        for one, other in (("a", "a"), ("a", "b'"), ("a b", "a b"), ("a a", "a'"), ("a", "a' a'"),
                           ("a b a' b'", "a b a' b'"), ("a b c", "a' b' c'"), ("a b c", "a b c"),
                           ("a b b", "a' a' b'")):
            found = tube(*words(one, other))
            self.assertEqual(found, NoTube())
            self.assertIs(bool(found), False)

    def test_drawn_ones_by_trying_all_places(self):
        draws = Draws(93)
        seen = set()
        for _ in range(300):
            one, = filled_rings(draws, 1, 8, 2)
            other = one.contrary().turned(draws.below(9)) if draws.below(3) else filled_rings(draws, 1, 3, 1)[0]
            here, there = draws.word(4, 3), draws.word(4, 3)
            long, more = here.then(one).then(here.contrary()), there.then(other).then(there.contrary())
            places = turns(one, other)
            answer = Tube(places[0]) if places else NoTube()
            self.assertEqual(tube(one, other), answer)
            self.assertEqual(tube(long, more), Tube(turns(long, more)[0]) if places else NoTube())
            seen.add(len(places))
        self.assertTrue({0, 1, 2} <= seen)

    def test_no_ring_is_its_own_contrary_turned(self):
        draws = Draws(94)
        for _ in range(150):
            one, = filled_rings(draws, 1, 10, 2)
            for by in range(len(one)):
                self.assertEqual(tube(one, one.turned(by)), NoTube())
                self.assertEqual(tube(one, one.contrary().turned(by)).turn, turns(one, one.contrary().turned(by))[0])

    def test_500_letters(self):
        one = Word([1] * 499 + [2])
        self.assertEqual(tube(one, one.contrary().turned(499)), Tube(499))
        self.assertEqual(tube(Word([1] * 500), Word([-1] * 500)), Tube(0))
        self.assertEqual(tube(Word([1] * 500), Word([-1] * 499)), NoTube())

    def test_what_shortens_to_nothing(self):
        for one, other in (("-", "a"), ("a", "-"), ("-", "-"), ("a a'", "a"), ("a", "b b'"), ("a b b' a'", "c c'")):
            self.told(Misfit("empty"), tube, *words(one, other))

    def test_wrong_words(self):
        for other in (None, Word([]), Word([1])):
            self.wrong_among(lambda value: tube(value, other), lambda value: BadWord("one"), (1, [1], "a"))
        for one in (Word([]), Word([1])):
            self.wrong_among(lambda value: tube(one, value), lambda value: BadWord("other"), (1, [1], "a"))


class TwoByTwo(Case):
    def test_tubes_of_rims(self):
        for text, answer in (
                ("a / a'", ((0, 1, 0),)), ("a b / a b / b' a' / a' b'", ((0, 2, 0), (1, 3, 1))),
                ("a / a / a' / a'", ((0, 2, 0), (1, 3, 0))), ("a / a' / a / a'", ((0, 1, 0), (2, 3, 0))),
                ("a / b / b' / a'", ((0, 3, 0), (1, 2, 0))), ("a' / b / a / b'", ((0, 2, 0), (1, 3, 0))),
                ("a / b / b' a'", None), ("a b a' b'", None), ("a b / a' b'", ((0, 1, 1),)),
                ("a a / a' / a'", None), ("a b a' b' / a b a' b'", None), ("a b a' b' / b a b' a'", ((0, 1, 0),)),
                ("a a b / a' b' a'", ((0, 1, 2),)), ("a / a' / b a b' a'", None),
                ("a b c / c b a / a' b' c' c' b' a'", None),
                ("a b c / a c b / a' b' c' / a' c' b'", ((0, 3, 2), (1, 2, 2)))):
            self.assertEqual(tubes_of(rims(text)), answer)
        self.assertEqual(tubes_of(rims=rims("a / a'")), ((0, 1, 0),))

    def test_drawn_ones_are_two_by_two(self):
        draws = Draws(95)
        found = 0
        for _ in range(200):
            rings = []
            for ring in filled_rings(draws, 1 + draws.below(2), 4, 2):
                rings += [ring, ring.contrary().turned(draws.below(5))]
            made = Rims(draws.mixed(rings))
            told = tubes_of(made)
            self.assertEqual(sorted(rim for triple in told for rim in triple[:2]), list(range(len(rings))))
            left = list(range(len(rings)))
            for one, other, turn in told:
                self.assertEqual(one, left[0])
                fitting = [rim for rim in left[1:] if turns(made.words[one], made.words[rim])]
                self.assertEqual(other, fitting[0])
                self.assertEqual(turn, turns(made.words[one], made.words[other])[0])
                left = [rim for rim in left if rim not in (one, other)]
            found += len(told) == 2
        self.assertGreater(found, 60)

    def test_all_rims_are_to_be_shortened_round(self):
        for text in ("a a'", "a b / b' a' a a'", "a b a' / b'", "a / a' b b'", "a / a' / b b'"):
            self.told(Misfit("short"), tubes_of, rims(text))

    def test_wrong_rims(self):
        self.wrong_among(tubes_of, lambda value: BadRims("rims"), (1, Word([1]), [Word([1]), Word([-1])], "a / a'"))

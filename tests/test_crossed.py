from math import prod

from handlerims.crossed import CrossSewing, all_crossed, crossed_census, many_crossed
from handlerims.errors import BadSewing, BadWord, TooMany
from handlerims.sewings import Sewing
from handlerims.words import Word
from tests import sewn
from tests.cases import WRONG, Case, rims
from tests.draws import Draws

RING = Word.read("a b a b'")
NO_RINGS = (1, [1, 1], (1, 1), "a a", Word([]), rims("a a'"))


class Made(Case):
    def test_attributes(self):
        for text, mates, alike, corners, squares in (
                ("a b a b'", [2, 3, 0, 1], (0, 2), ((0, 1, 2, 3),), 2), ("a a", [1, 0], (0, 1), ((0, 1),), 1),
                ("a a'", [1, 0], (), ((0,), (1,)), 0), ("a b a' b'", [2, 3, 0, 1], (), ((0, 1, 2, 3),), 3),
                ("a a b b", [1, 0, 3, 2], (0, 1, 2, 3), ((0, 1, 2, 3),), 2),
                ("a b b' a'", [3, 2, 1, 0], (), ((0,), (1, 3), (2,)), 0),
                ("a a' a a'", [2, 3, 0, 1], (0, 1, 2, 3), ((0, 2), (1, 3)), 1),
                ("a b a b", [2, 3, 0, 1], (0, 1, 2, 3), ((0, 2), (1, 3)), 1),
                ("a a b b'", [1, 0, 3, 2], (0, 1), ((0, 1, 2), (3,)), 1),
                ("a b a' b' c c", [2, 3, 0, 1, 5, 4], (4, 5), ((0, 1, 2, 3, 4, 5),), 3)):
            sewing = CrossSewing(Word.read(text), mates)
            self.assertEqual((sewing.word, sewing.mates), (Word.read(text), tuple(mates)))
            self.assertEqual((sewing.alike, sewing.corners, sewing.squares), (alike, corners, squares))
            for value in (sewing.mates, sewing.alike, sewing.corners, sewing.corners[0]):
                self.assertIs(type(value), tuple)

    def test_drawn_ones_by_joined_points_and_bands_across(self):
        draws = Draws(131)
        seen = set()
        for _ in range(300):
            letters, mates = draws.crossed(8)
            sewing = CrossSewing(Word(letters), mates)
            self.assertEqual([list(corner) for corner in sewing.corners], sewn.crossed_corners(letters, mates))
            self.assertEqual(sewing.alike, tuple(at for at in range(len(letters)) if letters[at] == letters[mates[at]]))
            self.assertEqual(sewing.squares, sewn.crossed_squares(letters, mates))
            seen.add((len(sewing.alike) > 0, sewing.squares))
        self.assertTrue({(False, 0), (False, 3), (False, 5), (True, 1), (True, 2), (True, 3)} <= seen)

    def test_none_alike_it_is_twice_the_handles_and_one(self):
        draws = Draws(132)
        for _ in range(120):
            made = draws.rims(1, 1 + draws.below(8), 3)
            plain = Sewing(made, draws.mates(made))
            crossed = CrossSewing(made.words[0], plain.mates)
            self.assertEqual(crossed.alike, ())
            self.assertEqual(crossed.squares, 2 * plain.handles + (plain.handles > 0))
            self.assertEqual(len(crossed.corners), len(plain.corners))

    def test_equal(self):
        one = CrossSewing(RING, [2, 3, 0, 1])
        self.assertTrue(one == CrossSewing(mates=(2, 3, 0, 1), word=Word([1, 2, 1, -2])))
        four = Word([1, 1, 1, 1])
        crossed, plain = CrossSewing(Word.read("a b a' b'"), [2, 3, 0, 1]), Sewing(rims("a b a' b'"), [2, 3, 0, 1])
        for here, other in ((CrossSewing(four, [1, 0, 3, 2]), CrossSewing(four, [2, 3, 0, 1])), (one, None),
                            (one, RING), (one, CrossSewing(Word.read("a b a b"), [2, 3, 0, 1])), (one, (2, 3, 0, 1)),
                            (crossed, plain)):
            self.assertIs(here == other, False)
            self.assertIs(other == here, False)
            self.assertIs(here != other, True)

    def test_wrong_mates(self):
        for value in WRONG + (1, [2, 3, 0], [2, 3, 0, 1, 1], [0, 1, 2, 3], [3, 2, 1, 0], [2, 3, 2, 1], [2, 2, 0, 1],
                              [2, 3, 0, -3], [-2, 3, 0, 1], [2, 3, 0, 4], [2, 3, False, True], [2, 3, 0, True],
                              [2, 3, 0, 1.0], [2, 3, 0, None], "2301", {0: 2}, [2, 10 ** 90, 0, 1], [[2, 3, 0, 1]],
                              {2, 3, 0, 1}, [1, 0, 3, 2], [2, 1, 0, 3], [0, 3, 2, 1], CrossSewing(RING, [2, 3, 0, 1])):
            self.told(BadSewing("mates"), CrossSewing, RING, value)
        self.told(BadSewing("mates"), CrossSewing, Word([1, 1, 2]), [1, 0, 2])
        self.told(BadSewing("mates"), CrossSewing, Word([1, 1, 1]), [1, 0, 0])
        self.told(BadSewing("mates"), CrossSewing, Word([1, 1, 1, 1]), [1, 2, 3, 0])
        self.told(BadSewing("mates"), CrossSewing, Word([1]), [0])

    def test_16_letters_and_more(self):
        self.assertEqual(CrossSewing(Word([1] * 16), list(range(15, -1, -1))).squares, 8)
        self.assertEqual(CrossSewing(Word([1] * 16), [(at + 8) % 16 for at in range(16)]).squares, 1)
        self.assertEqual(CrossSewing(Word([1, 1] * 8), [at ^ 1 for at in range(16)]).squares, 8)
        for many in (18, 500):
            self.told(TooMany("letters", 16), CrossSewing, Word([1] * many), list(range(many - 1, -1, -1)))
            self.told(BadSewing("mates"), CrossSewing, Word([1] * many), list(range(many)))

    def test_the_word_comes_first(self):
        self.wrong_among(lambda value: CrossSewing(value, None), lambda value: BadWord("word"), NO_RINGS)
        self.told(BadWord("word"), CrossSewing, Word([]), [])

    def test_what_is_passed_is_copied(self):
        mates = [2, 3, 0, 1]
        sewing = CrossSewing(RING, mates)
        mates[0] = 9
        self.assertEqual(sewing.mates, (2, 3, 0, 1))


class All(Case):
    def test_all_against_a_list_made_another_way(self):
        draws = Draws(133)
        for count in range(150):
            letters = draws.even(1 + draws.below(5), 1 + draws.below(3))
            if count % 5 == 0:
                letters = letters + [draws.letter(3)]
            word = Word(letters)
            every = sewn.all_crossed_mates(letters)
            found = all_crossed(word)
            self.assertIs(type(found), tuple)
            self.assertEqual([sewing.mates for sewing in found], every)
            self.assertTrue(all(sewing.word == word for sewing in found))
            self.assertEqual(many_crossed(word), len(every))
            counts = {}
            for mates in every:
                squares = sewn.crossed_squares(letters, mates)
                counts[squares] = counts.get(squares, 0) + 1
            self.assertEqual(crossed_census(word), tuple(sorted(counts.items())))

    def test_some_censuses(self):
        for text, answer in (("a a a a", ((1, 1), (2, 2))), ("a a'", ((0, 1),)), ("a", ()), ("a b", ()), ("a a b", ()),
                             ("a b a' b'", ((3, 1),)), ("a b a b'", ((2, 1),)), ("a a' a a", ((1, 2), (2, 1)))):
            self.assertEqual(crossed_census(Word.read(text)), answer)
            self.assertEqual(sum(many for _, many in answer), many_crossed(word=Word.read(text)))
        self.assertEqual(all_crossed(word=Word([1, 1])), (CrossSewing(Word([1, 1]), [1, 0]),))

    def test_odd_kinds(self):
        for text in ("a", "a b", "a a b", "a a a", "a b a b b", "a a' b c c"):
            self.assertEqual(many_crossed(Word.read(text)), 0)
            self.assertEqual((all_crossed(Word.read(text)), crossed_census(word=Word.read(text))), ((), ()))

    def test_945_and_more_sewings(self):
        for counts, many, fits in (([10], 945, True), ([8, 4, 4], 945, True), ([6, 6, 4], 675, True),
                                   ([12], 10395, False), ([8, 6], 1575, False), ([10, 4], 2835, False),
                                   ([2] * 8, 1, True), ([16], 2027025, False)):
            word = Word([kind + 1 for kind, count in enumerate(counts) for _ in range(count)])
            self.assertEqual(many_crossed(word), many)
            if fits:
                found = all_crossed(word)
                self.assertEqual(len(found), many)
                self.assertEqual([one.mates for one in found], sorted(set(one.mates for one in found)))
                self.assertEqual(sum(number for _, number in crossed_census(word)), many)
            else:
                self.told(TooMany("sewings", 945), all_crossed, word)
                self.told(TooMany("sewings", 945), crossed_census, word)

    def test_16_letters_and_more(self):
        eight = Word(list(range(1, 9)) * 2)
        self.assertEqual(len(all_crossed(eight)), 1)
        for word in (Word(list(range(1, 10)) * 2), Word([1] * 17), Word(list(range(1, 18))), Word([1] * 500)):
            for call in (all_crossed, crossed_census):
                self.told(TooMany("letters", 16), call, word)
        # An odd kind ahead of many sewings: there are none.
        self.assertEqual(all_crossed(Word([1] * 14 + [2])), ())

    def test_many_however_many(self):
        self.assertEqual(many_crossed(Word([1, -1] * 250)), prod(range(1, 500, 2)))
        self.assertEqual(many_crossed(Word([1] * 100 + [2] * 6 + [-2] * 4)), prod(range(1, 100, 2)) * 945)
        self.assertEqual(many_crossed(Word([1] * 499 + [2])), 0)
        self.assertEqual(many_crossed(Word(list(range(1, 27)) * 2)), 1)

    def test_wrong_words(self):
        for call in (many_crossed, all_crossed, crossed_census):
            self.wrong_among(call, lambda value: BadWord("word"), NO_RINGS)

from handlerims.crossed import CrossSewing, all_crossed
from handlerims.errors import BadSewing, BadWord, Impossible, TooMany
from handlerims.rims import Rims
from handlerims.sewings import Sewing
from handlerims.square_spelled import (SquareSpelling, square_product, square_spelled, square_spelled_word,
                                       squared_ahead, three_squares)
from handlerims.squares import Odd
from handlerims.words import Word
from tests import sewn
from tests.cases import NO_LISTS, WRONG, Case, rims
from tests.draws import Draws
from tests.matrices import product

A, B, C, EMPTY = Word([1]), Word([2]), Word([3]), Word([])


def squared(words):
    """The letters of the squares of the words, one behind the other."""
    return [letter for word in words for letter in word.letters + word.letters]


class Checked(Case):
    def spells(self, found, word, number):
        """Check that it is a SquareSpelling of the word, of so many shortened words."""
        self.assertIs(type(found), SquareSpelling)
        self.assertEqual(len(found.words), number)
        self.assertEqual(product(squared(found.words)), product(word.letters))
        self.assertTrue(all(isinstance(part, Word) and part.is_short for part in found.words))


class Products(Case):
    def test_products(self):
        for texts, answer in (([], "-"), (["a"], "a a"), (["a b"], "a b a b"), (["a", "a'"], "-"), (["-"], "-"),
                              (["a", "b"], "a a b b"), (["a", "a' b", "b'"], "a b a' b'"), (["a b", "b'"], "a b a b'"),
                              (["a a'"] * 12, "-"), (["a"] * 12, " ".join(["a"] * 24))):
            words = [Word.read(text) for text in texts]
            self.assertEqual(str(square_product(words)), answer)
            self.assertEqual(square_product(words=tuple(words)), square_product(words))

    def test_drawn_ones_multiplied_out(self):
        draws = Draws(137)
        for _ in range(150):
            words = [draws.word(6, 3) for _ in range(draws.below(13))]
            found = square_product(words)
            self.assertIs(found.is_short, True)
            self.assertEqual(product(found.letters), product(squared(words)))

    def test_12_words_and_13(self):
        self.assertEqual(len(square_product([A] * 12)), 24)
        self.told(BadWord("words"), square_product, [A] * 13)
        self.told(BadWord("words"), square_product, [EMPTY] * 13)

    def test_500_letters_and_more_are_left(self):
        # What is left has no odd kind: no odd number of letters.
        self.assertEqual(len(square_product([A.times(250)])), 500)
        self.assertEqual(len(square_product([A.times(100), B.times(150)])), 500)
        self.told(TooMany("letters", 500), square_product, [A.times(250), B])
        self.told(TooMany("letters", 500), square_product, [A.times(500)])
        self.assertEqual(square_product([A.times(500), A.times(-500)] * 6), EMPTY)
        self.told(TooMany("letters", 500), square_product, [A.times(500)] * 12)

    def test_no_list_of_words(self):
        for value in NO_LISTS + (1, A, [1], [A, None], [A, (1,)], "a", [A, "a"], [[A]], {0: A}, SquareSpelling([A]),
                                 [rims("a a'")]):
            self.told(BadWord("words"), square_product, value)
        for value in WRONG:
            self.told(BadWord("words"), square_product, [A, value])
            self.told(BadWord("words"), square_product, (value,))


class OfSewings(Checked):
    def test_by_as_many_words_as_squares(self):
        draws = Draws(138)
        seen = set()
        for _ in range(300):
            letters, mates = draws.crossed(8)
            sewing = CrossSewing(Word(letters), mates)
            self.spells(square_spelled(sewing), Word(letters), sewn.crossed_squares(letters, mates))
            self.assertEqual(square_spelled(CrossSewing(Word(letters), mates)), square_spelled(sewing))
            alike, handles = len(sewing.alike) > 0, sewing.squares - sum(sewing.mates[at] > at for at in sewing.alike)
            seen.add((alike, sewing.squares, handles > 0))
        self.assertTrue({(False, 0, False), (False, 3, True), (False, 5, True), (True, 1, False), (True, 3, True),
                         (True, 5, True)} <= seen)

    def test_all_crossed_sewings_of_some_rings(self):
        for text in ("a a a a a a", "a b a b'", "a b a' b' c c", "c c a b a' b'", "a b c a' b' c'", "a b a b a b a b'",
                     "a a' b b'", "a b c d a' b' c' d'", "a c b c a' b'"):
            for sewing in all_crossed(Word.read(text)):
                self.spells(square_spelled(sewing=sewing), Word.read(text), sewing.squares)

    def test_four_handles(self):
        eight = Word([1, 2, 3, 4, 5, 6, 7, 8, -1, -2, -3, -4, -5, -6, -7, -8])
        self.spells(square_spelled(all_crossed(eight)[0]), eight, 9)

    def test_errors(self):
        plain = Sewing(Rims([Word.read("a b a' b'")]), [2, 3, 0, 1])
        self.wrong_among(square_spelled, lambda value: BadSewing("sewing"), (1, A, plain, [1, 0], SquareSpelling([A])))


class OfWords(Checked):
    def test_by_as_few_words_as_can_be(self):
        draws = Draws(139)
        for _ in range(150):
            end = draws.word(3, 4)
            word = end.then(Word(draws.even(draws.below(6), 3))).then(end.contrary())
            ring = word.shortened_round()
            self.spells(square_spelled_word(word), word, sewn.fewest_squares(ring.letters))
            self.assertEqual(square_spelled_word(word=Word(word.letters)), square_spelled_word(word))

    def test_words_that_shorten_to_nothing(self):
        for word in (EMPTY, Word([1, -1]), Word([1] * 250 + [-1] * 250), Word([3, 1, -1, -3, 2, -2])):
            self.assertEqual(square_spelled_word(word), SquareSpelling([]))

    def test_24_letters_and_more_when_it_is_shortened(self):
        for many, fits in ((11, True), (12, False)):
            end = C.times(many)
            word = end.then(A).then(A).then(end.contrary())
            if fits:
                self.spells(square_spelled_word(word), word, 1)
                more = Word([5, -5] * 200).then(word)
                self.spells(square_spelled_word(more), word, 1)
            else:
                self.told(TooMany("letters", 24), square_spelled_word, word)
        end = Word([9, 10, 11, 12])
        eight = end.then(Word(list(range(1, 9)) + list(range(-1, -9, -1)))).then(end.contrary())
        self.assertEqual(len(eight), 24)
        self.spells(square_spelled_word(eight), eight, 9)

    def test_errors_in_order(self):
        self.wrong_among(square_spelled_word, lambda value: BadWord("word"), (1, [1, 1], "a a", SquareSpelling([])))
        for word in (Word([1] * 25), Word([1] * 500), Word(list(range(1, 27))), C.times(20).then(A).then(C.times(-20))):
            self.told(TooMany("letters", 24), square_spelled_word, word)
        for word in (Word([1] * 17), Word([1] * 24), Word(list(range(1, 20)))):
            self.told(TooMany("letters", 16), square_spelled_word, word)
        self.told(TooMany("sewings", 945), square_spelled_word, Word([1] * 12))
        for word, kind in ((A, 1), (Word([2, 1, 2]), 1), (Word([1] * 14 + [2]), 2), (Word([3, 2, -3]), 2)):
            self.told(Impossible(Odd(kind)), square_spelled_word, word)


class ThreeSquares(Case):
    def test_three_squares(self):
        draws = Draws(140)
        self.assertEqual(three_squares(A, B), (A, Word([-1, 2]), Word([-2])))
        self.assertEqual(three_squares(other=A, one=A), (A, EMPTY, Word([-1])))
        self.assertEqual(three_squares(EMPTY, EMPTY), (EMPTY, EMPTY, EMPTY))
        for _ in range(100):
            one, other = draws.word(8, 2), draws.word(8, 2)
            found = three_squares(one, other)
            self.assertIs(type(found), tuple)
            self.assertEqual(found, (one.shortened(), one.contrary().then(other).shortened(),
                                     other.contrary().shortened()))
            self.assertEqual(product(squared(found)), product(Word.exchange(one, other).letters))

    def test_500_letters_and_more(self):
        self.assertEqual(len(three_squares(A.times(250), B.times(250))[1]), 500)
        self.told(TooMany("letters", 500), three_squares, A.times(250), B.times(251))
        self.assertEqual(three_squares(A.times(500), A.times(500)), (A.times(500), EMPTY, A.times(-500)))
        self.assertEqual(three_squares(Word([1, -1] * 250), B.times(500))[1], B.times(500))

    def test_wrong_words(self):
        self.wrong_among(lambda value: three_squares(value, None), lambda value: BadWord("one"), (1, [1], "a"))
        self.wrong_among(lambda value: three_squares(A, value), lambda value: BadWord("other"), (1, [1], "a"))


class SquaredAhead(Case):
    def test_a_square_and_an_exchange_are_three_squares(self):
        draws = Draws(141)
        self.assertEqual([str(word) for word in squared_ahead(C, A, B)], ["c c a b a' c'", "c a b' a' c' a' c'", "c a"])
        self.assertEqual(squared_ahead(one=EMPTY, other=EMPTY, square=EMPTY), (EMPTY, EMPTY, EMPTY))
        for _ in range(100):
            square, one, other = draws.word(6, 2), draws.word(6, 2), draws.word(6, 2)
            found = squared_ahead(square, one, other)
            self.assertIs(type(found), tuple)
            self.assertTrue(all(word.is_short for word in found))
            self.assertEqual(found[2], square.then(one).shortened())
            self.assertEqual(product(squared(found)),
                             product(square.letters * 2 + Word.exchange(one, other).letters))

    def test_500_letters_and_more(self):
        self.assertEqual([len(word) for word in squared_ahead(A.times(100), EMPTY, B.times(200))], [500, 500, 100])
        self.told(TooMany("letters", 500), squared_ahead, A.times(100), EMPTY, B.times(201))
        self.told(TooMany("letters", 500), squared_ahead, A.times(500), B, EMPTY)
        # The first alone is too long, then the second alone.
        self.assertEqual([len(word) for word in squared_ahead(A.times(100), A.times(-100), B.times(400))],
                         [500, 400, 0])
        self.told(TooMany("letters", 500), squared_ahead, A.times(100), A.times(-100), B.times(401))
        self.assertEqual([len(word) for word in squared_ahead(B.times(100), A, A.times(199))], [499, 500, 101])
        self.told(TooMany("letters", 500), squared_ahead, B.times(100), A, A.times(200))
        self.assertEqual(squared_ahead(A.times(500), A.times(-500), A.times(-1)), (A.times(499), A, EMPTY))
        self.told(TooMany("letters", 500), squared_ahead, A.times(500), Word([2]), Word([3]))

    def test_wrong_words(self):
        more = (1, [1], "a")
        self.wrong_among(lambda value: squared_ahead(value, None, None), lambda value: BadWord("square"), more)
        self.wrong_among(lambda value: squared_ahead(A, value, None), lambda value: BadWord("one"), more)
        self.wrong_among(lambda value: squared_ahead(A, B, value), lambda value: BadWord("other"), more)

from handlerims.errors import BadNumber, BadWord, Impossible, TooMany
from handlerims.squares import Odd, Squares, as_square, most_squares, odd_kinds, squares_of
from handlerims.words import Word
from tests import sewn
from tests.cases import Case, rims
from tests.draws import Draws
from tests.matrices import product

NO_WORDS = (1, [1, 1], "a a", rims("a a'"))


class SquaresOf(Case):
    def test_numbers(self):
        for text, number in (("-", 0), ("a a'", 0), ("c a a' c'", 0), ("a a", 1), ("a b a' b'", 3), ("a b a b", 1),
                             ("a b a' b' a b a' b'", 1), ("c a b c a b", 1), ("a b a b'", 2), ("a a b b", 2),
                             ("a a a a", 1), ("a b a' b' c c", 3), ("c a a c'", 1), ("a a b b c c", 3),
                             ("a b c a' b' c'", 3), ("a b a' b' c d c' d'", 5), ("a b c d a' b' c' d'", 5)):
            self.assertEqual(squares_of(Word.read(text)).number, number)

    def test_the_paper_keeps_the_ring_and_mates_with_so_many(self):
        draws = Draws(134)
        for _ in range(150):
            end = draws.word(5, 4)
            word = end.then(Word(draws.even(draws.below(6), 3))).then(end.contrary())
            found = squares_of(word=word)
            self.assertIs(type(found), Squares)
            self.assertEqual(found.ring, word.shortened_round())
            self.assertEqual(found.number, sewn.fewest_squares(found.ring.letters))
            if len(found.ring) == 0:
                self.assertEqual(found, Squares(0, Word([]), ()))
            else:
                self.assertIn(found.mates, sewn.all_crossed_mates(found.ring.letters))
                self.assertEqual(sewn.crossed_squares(found.ring.letters, found.mates), found.number)
            self.assertEqual(squares_of(Word(word.letters)), found)

    def test_odd_kinds_make_it_impossible(self):
        for text, kind in (("a", 1), ("b", 2), ("b a", 1), ("a b a", 2), ("a a b c", 2), ("z' y y", 26),
                           ("a a' b", 2), ("a b a' b' c", 3), ("a b a' c c", 2)):
            self.told(Impossible(Odd(kind)), squares_of, Word.read(text))
        self.told(Impossible(Odd(1)), squares_of, Word([2] * 5 + [1] * 3))
        # There are no crossed sewings of it, so not too many of them.
        self.told(Impossible(Odd(2)), squares_of, Word([1] * 14 + [2]))

    def test_16_letters_and_more_shortened_round(self):
        eight = Word(list(range(1, 9)) * 2)
        end = Word([20, 21, 22] * 80)
        moved = end.then(eight).then(end.contrary())
        self.assertEqual((len(moved), squares_of(moved).number), (496, 1))
        self.assertEqual(squares_of(Word([1, -1] * 250)), Squares(0, Word([]), ()))
        for word in (Word(list(range(1, 10)) * 2), Word([1] * 17), Word([1] * 500), Word(list(range(1, 18)))):
            self.told(TooMany("letters", 16), squares_of, word)
            self.told(TooMany("letters", 16), squares_of, Word([26]).then(Word(word.letters[:490])).then(Word([-26])))

    def test_945_and_more_sewings_shortened_round(self):
        self.assertEqual(squares_of(Word([1] * 10)).number, 1)
        self.assertEqual(squares_of(Word([1, 2, 3] * 4 + [1] * 4)).number,
                         sewn.fewest_squares([1, 2, 3] * 4 + [1] * 4))
        for word in (Word([1] * 12), Word([1] * 8 + [2] * 6), Word([1] * 10 + [2] * 4)):
            self.told(TooMany("sewings", 945), squares_of, word)
        # What is taken out does not count.
        self.assertEqual(squares_of(Word([1, 1] + [2] * 10 + [-1, -1])).number, 1)
        self.told(TooMany("letters", 16), squares_of, Word([1] * 18))

    def test_wrong_words(self):
        self.wrong_among(squares_of, lambda value: BadWord("word"), NO_WORDS)


class MostSquares(Case):
    def test_most_squares(self):
        self.assertEqual([most_squares(handles) for handles in range(5)], [0, 3, 5, 7, 9])
        self.assertEqual(most_squares(handles=10 ** 90), 2 * 10 ** 90 + 1)
        self.wrong_among(most_squares, lambda value: BadNumber("handles"), (-1, -10 ** 90, [1], Word([])))


class AsSquare(Case):
    def test_roots_of_squares(self):
        for text, answer in (("a a", "a"), ("a b a b", "a b"), ("b' a a b", "b' a b"), ("-", "-"), ("a a'", "-"),
                             ("a a a a", "a a"), ("c a b a b c'", "c a b c'"), ("a b b' a", "a"),
                             ("b a' a' b'", "b a' b'"),
                             ("a b a b b' a' b' a'", "-"), ("c c' a a", "a")):
            found = as_square(Word.read(text))
            self.assertIs(type(found), Word)
            self.assertEqual(str(found), answer)
        for text in ("a", "a b", "a a a", "a a b b", "a b a' b'", "b a b'", "a b b a", "a b a b'", "a' b a b"):
            self.assertIs(as_square(word=Word.read(text)), None)

    def test_drawn_ones_by_products(self):
        draws = Draws(135)
        found = 0
        for _ in range(300):
            word = draws.word(6, 2)
            twice = as_square(word.then(word))
            self.assertEqual(twice, word.shortened())
            root = as_square(word)
            if root is not None:
                self.assertIs(root.is_short, True)
                self.assertEqual(product(root.letters * 2), product(word.letters))
                found += 1
        self.assertGreater(found, 20)

    def test_none_where_no_word_has_this_square(self):
        words = [Word([])]
        signs = (1, -1, 2, -2)
        for _ in range(3):
            words += [Word(word.letters + (sign,)) for word in words for sign in signs]
        squares = {word.then(word).shortened().letters for word in words}
        for letters in [word.letters for word in words]:
            # A word with so few letters is the square of one with no more.
            self.assertIs(as_square(Word(letters)) is None, Word(letters).shortened().letters not in squares)

    def test_500_letters(self):
        self.assertEqual(as_square(Word([1, 2] * 250)), Word([1, 2] * 125))
        self.assertIs(as_square(Word([1] * 499 + [2])), None)
        self.assertEqual(as_square(Word([1] * 499 + [-1])), Word([1] * 249))

    def test_wrong_words(self):
        self.wrong_among(as_square, lambda value: BadWord("word"), NO_WORDS)


class OddKinds(Case):
    def test_odd_kinds(self):
        for text, answer in (("-", ()), ("a", (1,)), ("a a'", ()), ("b a b' c", (1, 3)), ("z y' z", (25,)),
                             ("a a a b b'", (1,)), ("a b a' b'", ()), ("c b a", (1, 2, 3))):
            self.assertEqual(odd_kinds(Word.read(text)), answer)
        self.assertEqual(odd_kinds(word=Word(list(range(26, 0, -1)))), tuple(range(1, 27)))

    def test_drawn_ones(self):
        draws = Draws(136)
        for _ in range(150):
            word = draws.word(12, 5)
            kinds = [abs(letter) for letter in word.letters]
            answer = tuple(kind for kind in range(1, 27) if kinds.count(kind) % 2 == 1)
            self.assertEqual(odd_kinds(word), answer)
            self.assertEqual(odd_kinds(word.shortened_round()), answer)

    def test_wrong_words(self):
        self.wrong_among(odd_kinds, lambda value: BadWord("word"), NO_WORDS)

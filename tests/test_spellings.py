from handlerims.errors import BadNumber, BadPaper, BadWord, TooMany
from handlerims.papers import Denial, Paper
from handlerims.spellings import Spelling, moved, product_of, put_in, undone
from handlerims.words import Word
from tests.cases import NO_LISTS, WRONG, Case, rims
from tests.draws import Draws
from tests.matrices import multiplied, product

A, B, C, EMPTY = Word([1]), Word([2]), Word([3]), Word([])
ONE = Spelling([(A, B)])


def table_of_pairs(pairs):
    """The exchanges of the pairs multiplied out, as tables of integers."""
    made = (1, 0, 0, 1)
    for x, y in pairs:
        for letters in (x.letters, y.letters, x.contrary().letters, y.contrary().letters):
            made = multiplied(made, product(letters))
    return made


def drawn_pairs(draws, most, letters, kinds):
    return [(draws.word(letters, kinds), draws.word(letters, kinds)) for _ in range(draws.below(most + 1))]


def no_spellings():
    """Values that are no right Spellings: bent ones, papers of other classes, any others."""
    class Mine(Spelling):
        pass
    stranger = type("Spelling", (Paper,), {})("spelling", ((A, B),))
    bent = [Spelling(pairs) for pairs in (
        [(A, B)] * 13, [A, B], [(A,)], [(A, B, C)], [(A, (2,))], [(A, "b")], [("a", B)], [(A, None)], [()], (A, B),
        [[(A, B)]], [(A, B), None], [(A, B), (B, rims("a a'"))], {A.letters: B.letters}, "ab", None, 0, A, ONE,
        [ONE], [(A, B), [A]], [[A, [B]]], [{0: A, 1: B}], {0: (A, B)})]
    any_pairs = [Spelling(value) for value in NO_LISTS]
    any_pair = [Spelling([value]) for value in WRONG] + [Spelling([(A, value)]) for value in WRONG]
    return bent + any_pairs + any_pair + [stranger, Mine([(A, B)]), Paper("spelling", [(A, B)]),
                                          Denial("spelling", [(A, B)]), [(A, B)], ((A, B),), A, 1, rims("a a'")]


class ProductOf(Case):
    def test_products(self):
        for texts, answer in (([], "-"), ([("a", "b")], "a b a' b'"), ([("a", "b"), ("b", "a")], "-"),
                              ([("a", "a")], "-"), ([("a", "-")], "-"), ([("-", "b")], "-"), ([("-", "-")], "-"),
                              ([("a a", "a'")], "-"), ([("a", "b"), ("c", "d")], "a b a' b' c d c' d'"),
                              ([("a", "b"), ("b", "c")], "a b a' c b' c'"), ([("a b", "b")], "a b a' b'"),
                              ([("a", "b")] * 12, " ".join(["a b a' b'"] * 12))):
            pairs = [(Word.read(x), Word.read(y)) for x, y in texts]
            found = product_of(pairs)
            self.assertIs(type(found), Word)
            self.assertEqual(str(found), answer)
            self.assertEqual(product_of(pairs=tuple([list(pair) for pair in pairs])), found)

    def test_drawn_ones_multiplied_out(self):
        draws = Draws(80)
        for _ in range(200):
            pairs = drawn_pairs(draws, 5, 6, 3)
            found = product_of(pairs)
            self.assertIs(found.is_short, True)
            self.assertEqual(product(found.letters), table_of_pairs(pairs))

    def test_12_pairs_and_13(self):
        self.assertEqual(len(product_of([(A, B)] * 12)), 48)
        self.told(BadWord("pairs"), product_of, [(A, B)] * 13)
        self.told(BadWord("pairs"), product_of, [(EMPTY, EMPTY)] * 13)

    def test_500_letters_and_more_are_left(self):
        # What is left is balanced: no odd number of letters.
        self.assertEqual(len(product_of([(A.times(125), B.times(125))])), 500)
        self.told(TooMany("letters", 500), product_of, [(A.times(126), B.times(125))])
        large = [(A.times(500), B.times(500)), (B.times(500), A.times(500))]
        self.assertEqual(product_of(large * 6), EMPTY)
        self.told(TooMany("letters", 500), product_of, large[:1])
        self.told(TooMany("letters", 500), product_of, large[:1] * 12)
        self.told(BadWord("pairs"), product_of, large[:1] * 13)

    def test_no_list_of_pairs_of_words(self):
        for value in NO_LISTS + (1, [1], [A], [A, B], (A, B), [(A,)], [(A, B, C)], [(A, B), (A,)], [(A, (2,))],
                                 [[A, "b"]], [(A, B), None], ONE, [ONE], "ab", [(A, rims("a a'"))], {A.letters: B},
                                 [{0: A, 1: B}]):
            self.told(BadWord("pairs"), product_of, value)
        for value in WRONG:
            for pairs in ([value], [(A, value)], [(value, B)], [(A, B), (value, value)]):
                self.told(BadWord("pairs"), product_of, pairs)


class Undone(Case):
    def test_pairs_from_behind_their_words_exchanged(self):
        self.assertEqual(undone(ONE), Spelling([(B, A)]))
        self.assertEqual(undone(Spelling([(A, B), (B, C), (C, EMPTY)])), Spelling([(EMPTY, C), (C, B), (B, A)]))
        self.assertEqual(undone(spelling=Spelling([])), Spelling(()))
        self.assertEqual(undone(Spelling([[Word([1, 2, -2]), Word([3, -3])]])), Spelling([(EMPTY, A)]))
        self.assertIs(type(undone(ONE)), Spelling)

    def test_it_spells_the_contrary(self):
        draws = Draws(81)
        for _ in range(150):
            pairs = drawn_pairs(draws, 12, 4, 3)
            found = undone(Spelling(pairs))
            self.assertEqual(product_of(found.pairs), product_of(pairs).contrary())
            self.assertEqual(multiplied(table_of_pairs(found.pairs), table_of_pairs(pairs)), (1, 0, 0, 1))
            self.assertTrue(all(word.is_short for pair in found.pairs for word in pair))

    def test_500_letters(self):
        found = undone(Spelling([(A.times(500), Word([2, -2] * 250))] * 12))
        self.assertEqual(found, Spelling([(EMPTY, A.times(500))] * 12))

    def test_no_right_spelling(self):
        for value in tuple(no_spellings()) + WRONG:
            self.told(BadPaper("spelling"), undone, value)


class Moved(Case):
    def test_each_word_between_the_word_and_its_contrary(self):
        self.assertEqual(moved(ONE, C), Spelling([(Word([3, 1, -3]), Word([3, 2, -3]))]))
        self.assertEqual(moved(ONE, A), Spelling([(A, Word([1, 2, -1]))]))
        self.assertEqual(moved(word=EMPTY, spelling=ONE), ONE)
        self.assertEqual(moved(Spelling([]), C), Spelling([]))
        self.assertEqual(moved(Spelling([(Word([1, -1, 2]), EMPTY)]), Word([3, -3])), Spelling([(B, EMPTY)]))

    def test_it_spells_the_word_between_both(self):
        draws = Draws(82)
        for _ in range(150):
            pairs, end = drawn_pairs(draws, 12, 4, 3), draws.word(6, 3)
            found = moved(Spelling(pairs), end)
            between = end.then(product_of(pairs)).then(end.contrary())
            self.assertEqual(product_of(found.pairs), between.shortened())
            self.assertTrue(all(word.is_short for pair in found.pairs for word in pair))

    def test_500_letters_and_501(self):
        for many, end, fits in ((2, 249, True), (2, 250, False), (1, 249, True), (3, 249, False), (500, 0, True)):
            spelling = Spelling([(EMPTY, B.times(many))])
            if fits:
                self.assertEqual(len(moved(spelling, A.times(end)).pairs[0][1]), many + 2 * end)
            else:
                self.told(TooMany("letters", 500), moved, spelling, A.times(end))
        self.told(TooMany("letters", 500), moved, Spelling([(B, B), (B.times(3), A)]), A.times(249))
        # Too many only before they are shortened.
        self.assertEqual(moved(Spelling([(A.times(500), A)]), A.times(500)), Spelling([(A.times(500), A)]))
        self.assertEqual(moved(Spelling([(B, B)]), Word([1, -1] * 250)), Spelling([(B, B)]))

    def test_errors(self):
        for value in tuple(no_spellings()) + WRONG:
            self.told(BadPaper("spelling"), moved, value, None)
        self.wrong_among(lambda value: moved(ONE, value), lambda value: BadWord("word"), (1, [1], "a", ONE))
        self.wrong_among(lambda value: moved(Spelling([]), value), lambda value: BadWord("word"))


class PutIn(Case):
    def test_words_put_for_a_kind(self):
        self.assertEqual(put_in(ONE, 1, Word([2, 2])), Spelling([(Word([2, 2]), B)]))
        self.assertEqual(put_in(ONE, 1, B), Spelling([(B, B)]))
        self.assertEqual(put_in(ONE, 3, B), ONE)
        self.assertEqual(put_in(word=EMPTY, kind=2, spelling=ONE), Spelling([(A, EMPTY)]))
        told = Spelling([(Word([1, 2, -1]), Word([-1, -1]))])
        self.assertEqual(put_in(told, 1, Word([2, 1])), Spelling([(Word([2, 1, 2, -1, -2]), Word([-1, -2, -1, -2]))]))
        self.assertEqual(put_in(told, 2, Word([1, 3, -3])), Spelling([(A, Word([-1, -1]))]))
        self.assertEqual(put_in(Spelling([]), 26, C), Spelling([]))

    def test_it_spells_what_is_put(self):
        draws = Draws(83)
        for _ in range(150):
            pairs, kind, other = drawn_pairs(draws, 4, 5, 3), 1 + draws.below(3), draws.word(4, 3)
            found = put_in(Spelling(pairs), kind, other)
            # Each letter told by the table of what is put for it.
            letters = []
            for letter in product_of(pairs).letters:
                ahead = {kind: other.letters, -kind: other.contrary().letters}.get(letter, (letter,))
                letters.extend(ahead)
            self.assertEqual(product(letters), table_of_pairs(found.pairs))
            self.assertTrue(all(word.is_short for pair in found.pairs for word in pair))
            self.assertEqual(len(found.pairs), len(pairs))

    def test_500_letters_and_501(self):
        self.assertEqual(len(put_in(Spelling([(A.times(100), B)]), 1, C.times(5)).pairs[0][0]), 500)
        self.told(TooMany("letters", 500), put_in, Spelling([(A.times(100).then(B), B)]), 1, C.times(5))
        self.told(TooMany("letters", 500), put_in, Spelling([(B, B), (B, A.times(-501 // 3))]), 1, C.times(3))
        self.told(TooMany("letters", 500), put_in, Spelling([(A.times(500), B)]), 1, C.times(500))
        # Too many only before they are shortened: between, what is put takes out itself, or nothing is put.
        back = Word([2] * 100 + [1] * 250 + [-2] * 100)
        self.assertEqual(put_in(Spelling([(back, B)]), 1, Word([-2] * 100 + [1] + [2] * 100)).pairs[0][0],
                         A.times(250))
        self.assertEqual(put_in(Spelling([(A.times(500), B)]), 1, Word([3, -3] * 250)), Spelling([(EMPTY, B)]))
        self.assertEqual(put_in(Spelling([(Word([1, -1] * 250), B)] * 12), 1, C.times(500)),
                         Spelling([(EMPTY, B)] * 12))

    def test_errors(self):
        for value in tuple(no_spellings()) + WRONG:
            self.told(BadPaper("spelling"), put_in, value, None, None)
        kinds = (0, 27, -1, -26, 10 ** 90, [1])
        self.wrong_among(lambda value: put_in(ONE, value, None), lambda value: BadNumber("kind"), kinds)
        self.wrong_among(lambda value: put_in(ONE, 3, value), lambda value: BadWord("word"), (1, [1], "a", ONE))

    def test_what_is_passed_stays(self):
        pairs = [[A, B]]
        told = Spelling(pairs)
        pairs[0][0] = C
        self.assertEqual(told, ONE)
        for call in (undone, lambda value: moved(value, C), lambda value: put_in(value, 1, C)):
            call(told)
            self.assertEqual(told.pairs, ((A, B),))

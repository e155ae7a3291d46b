from handlerims.errors import BadNumber, BadWord, NoLetter, TooMany, Twice
from handlerims.renamed import put, renamed
from handlerims.words import Word
from tests.cases import WRONG, Case
from tests.draws import Draws


class Renamed(Case):
    def test_renamed(self):
        for text, pairs, answer in (
                ("a b a' b'", [(1, -2), (2, 1)], "b' a b a'"), ("a b a'", [], "a b a'"), ("-", [(1, 2)], "-"),
                ("a b", [(1, 3), (2, 3)], "c c"), ("a b'", [[1, 26], (2, -26)], "z z"), ("a", [(2, 5)], "a"),
                ("a a'", ((1, -1),), "a' a"), ("a b c", [(1, 2), (2, 3), (3, 1)], "b c a"), ("a b", [(1, -2)], "b' b")):
            self.assertEqual(str(renamed(Word.read(text), pairs)), answer)
        self.assertEqual(str(renamed(word=Word([1]), pairs=[(1, 2)])), "b")

    def test_letter_by_letter(self):
        draws = Draws(7)
        for _ in range(100):
            word = draws.word(20, 4)
            letters = [draws.letter(26) for _ in range(4)]
            found = renamed(word, list(zip(draws.mixed([1, 2, 3, 4]), letters)))
            self.assertEqual(len(found), len(word))
            back = {}
            for one, other in zip(word.letters, found.letters):
                # What is put for a letter is one letter, and its contrary for the contrary.
                forward = other if one > 0 else -other
                self.assertEqual(back.setdefault(abs(one), forward), forward)

    def test_the_word_and_the_pairs_stay(self):
        word, pairs = Word([1, 2]), [[1, 2], [2, 1]]
        renamed(word, pairs)
        self.assertEqual((word.letters, pairs), ((1, 2), [[1, 2], [2, 1]]))

    def test_wrong_words_come_first(self):
        self.wrong_among(lambda value: renamed(value, None), lambda value: BadWord("word"), (1, "a", [1]))

    def test_no_lists_of_pairs(self):
        word = Word([1])
        for value in WRONG + (1, [1], [(1,)], [(1, 2, 3)], [(1, 2), None], [(1, 2), "ab"], {1: 2}, "ab", ["ab"],
                              [(0, 0), 3], [{1, 2}], [[]], Word([1])):
            if not isinstance(value, (list, tuple)) or len(value) > 0:
                self.told(BadNumber("pairs"), renamed, word, value)

    def test_no_kinds_and_no_letters(self):
        word = Word([1])
        for value in WRONG + (0, 27, -27, 10 ** 90, [1]):
            self.told(NoLetter(value), renamed, word, [(1, value)])
            self.told(NoLetter(value), renamed, word, [(2, 3), (value, 4)])
            self.told(NoLetter(value), renamed, word, [(value, None), (1, 0)])
        # A letter that runs backward is no kind.
        self.told(NoLetter(-1), renamed, word, [(-1, 2)])
        self.assertEqual(renamed(word, [(1, -26)]), Word([-26]))

    def test_the_first_wrong_value_is_told(self):
        word = Word([1])
        self.told(NoLetter(0), renamed, word, [(1, 2), (0, 30)])
        self.told(NoLetter(30), renamed, word, [(1, 30), (0, 2)])
        self.told(NoLetter(0), renamed, word, [(1, 2), (1, 3), (2, 0)])
        self.told(Twice(1), renamed, word, [(2, 2), (1, 2), (1, 3), (2, 4)])
        self.told(Twice(2), renamed, word, [(2, 2), (1, 2), (2, 3), (1, 4)])


class Put(Case):
    def test_put(self):
        for text, kind, other, answer in (
                ("a b a'", 1, "b a", "b a b a' b'"), ("a b a' b'", 2, "-", "a a'"), ("a a", 1, "a a", "a a a a"),
                ("-", 1, "a b", "-"), ("a", 2, "b", "a"), ("a'", 1, "b c", "c' b'"), ("b a b'", 1, "a' b", "b a' b b'"),
                ("a", 1, "-", "-"), ("z", 26, "z z'", "z z'"), ("-", 3, "-", "-")):
            self.assertEqual(str(put(Word.read(text), kind, Word.read(other))), answer)
        self.assertEqual(str(put(other=Word([2]), kind=1, word=Word([1]))), "b")

    def test_put_as_a_sum_of_words(self):
        draws = Draws(8)
        for _ in range(100):
            word, other, kind = draws.word(12, 3), draws.word(6, 3), 1 + draws.below(3)
            sum_of = Word([])
            for letter in word.letters:
                part = {kind: other, -kind: other.contrary()}.get(letter, Word([letter]))
                sum_of = sum_of.then(part)
            self.assertEqual(put(word, kind, other), sum_of)

    def test_500_and_501_letters(self):
        self.assertEqual(len(put(Word([1] * 5), 1, Word([2] * 100))), 500)
        self.assertEqual(len(put(Word([1, -1, 3]), 1, Word([2] * 249))), 499)
        self.told(TooMany("letters", 500), put, Word([1, -1, 3]), 1, Word([2] * 250))
        self.told(TooMany("letters", 500), put, Word([1] * 500), 1, Word([1] * 500))
        self.assertEqual(len(put(Word([1] * 500), 2, Word([1] * 500))), 500)
        self.assertEqual(len(put(Word([1] * 500), 1, Word([]))), 0)

    def test_wrong_ones(self):
        self.wrong_among(lambda value: put(value, 0, None), lambda value: BadWord("word"), (1, "a", [1]))
        self.wrong_among(lambda value: put(Word([1]), value, None), lambda value: BadNumber("kind"),
                         (0, 27, -1, -26, 10 ** 90, [1]))
        self.wrong_among(lambda value: put(Word([1]), 1, value), lambda value: BadWord("other"), (1, "a", [1]))
        self.assertEqual(put(Word([1, 26]), 26, Word([1])), Word([1, 1]))

    def test_the_words_stay(self):
        word, other = Word([1, 2, -1]), Word([3, -3])
        put(word, 1, other)
        self.assertEqual((word.letters, other.letters), ((1, 2, -1), (3, -3)))

from handlerims.errors import BadNumber, BadText, BadWord, NoLetter, TooMany
from handlerims.words import Word
from tests.cases import WRONG, Case, words
from tests.draws import Draws

BAD_LETTERS = ([0], [27], [-27], [1, True], [1, 1.0], [1, "a"], [1, None], [[1]], (1, 0), "ab", {1}, {1: 2}, 3,
               Word([1]), [Word([1])], [10 ** 80])


def text_of(letters):
    """The text, made another way."""
    return " ".join("abcdefghijklmnopqrstuvwxyz"[abs(x) - 1] + "'" * (x < 0) for x in letters) or "-"


class Made(Case):
    def test_attributes(self):
        word = Word((3, -1, 3, 26, -26))
        self.assertEqual(word.letters, (3, -1, 3, 26, -26))
        self.assertIs(type(Word([1, 2]).letters), tuple)
        self.assertEqual((word.length, len(word), word.kinds), (5, 5, (1, 3, 26)))
        empty = Word([])
        self.assertEqual((empty.letters, empty.length, len(empty), empty.kinds), ((), 0, 0, ()))
        self.assertEqual((empty.is_short, empty.is_short_round), (True, True))

    def test_short_and_short_round(self):
        for text, short, short_round in (
                ("a", True, True), ("a a'", False, False), ("a' a", False, False), ("a b a'", True, False),
                ("a b a' b'", True, True), ("a a", True, True), ("a b b' c", False, False), ("b a a' b", False, False),
                ("a b c a'", True, False), ("a b' b a'", False, False), ("a b a", True, True)):
            word = Word.read(text)
            self.assertIs(word.is_short, short)
            self.assertIs(word.is_short_round, short_round)

    def test_equal(self):
        self.assertTrue(Word([1, 2]) == Word((1, 2)))
        for other in (Word([2, 1]), Word([1]), (1, 2), [1, 2], "a b", None, 1):
            self.assertIs(Word([1, 2]) == other, False)
            self.assertIs(Word([1, 2]) != other, True)
        self.assertIs(Word([]) == (), False)

    def test_wrong_letters(self):
        self.told(BadWord("letters"), Word, None)
        for value in WRONG + BAD_LETTERS:
            if not isinstance(value, (list, tuple)) or len(value) > 0:
                self.told(BadWord("letters"), Word, value)

    def test_500_and_501_letters(self):
        self.assertEqual(len(Word([1, -2] * 250)), 500)
        self.told(TooMany("letters", 500), Word, [1] * 501)
        self.told(TooMany("letters", 500), Word, tuple([1, -1] * 300))
        # A wrong letter is told first, wherever it stands.
        self.told(BadWord("letters"), Word, [1] * 501 + [0])

    def test_what_is_passed_is_copied(self):
        letters = [1, 2]
        word = Word(letters=letters)
        letters.append(3)
        self.assertEqual(word.letters, (1, 2))


class Changed(Case):
    def test_contrary(self):
        for text, answer in (("-", "-"), ("a", "a'"), ("a b", "b' a'"), ("a a' b", "b' a a'"), ("z' a a", "a' a' z")):
            self.assertEqual(str(Word.read(text).contrary()), answer)

    def test_shortened(self):
        for text, answer in (("-", "-"), ("a", "a"), ("a a'", "-"), ("a b b' a' a", "a"), ("a b c c' b' a'", "-"),
                             ("a b a' b'", "a b a' b'"), ("a a' a", "a"), ("b a a' c c' b' d", "d"),
                             ("a' a a b", "a b")):
            self.assertEqual(str(Word.read(text).shortened()), answer)

    def test_shortened_round(self):
        for text, answer in (("-", "-"), ("a", "a"), ("a a'", "-"), ("a b a'", "b"), ("a b c b' a'", "c"),
                             ("a b b a'", "b b"), ("a b a' b'", "a b a' b'"), ("c' a b b' a c", "a a"),
                             ("a b c a' c' a", "a b c a' c' a"), ("a b' a' b b' a b a'", "-")):
            self.assertEqual(str(Word.read(text).shortened_round()), answer)

    def test_turned(self):
        word = Word.read("a b c")
        turns = [str(word.turned(by)) for by in (-4, -3, -2, -1, 0, 1, 2, 3, 4)]
        self.assertEqual(turns, ["c a b", "a b c", "b c a", "c a b", "a b c", "b c a", "c a b", "a b c", "b c a"])
        self.assertEqual(word.turned(3 * 10 ** 90 + 1), word.turned(1))
        self.assertEqual(word.turned(by=-3 * 10 ** 90 - 1), word.turned(2))
        for by in (0, 5, -10 ** 80):
            self.assertEqual(Word([]).turned(by), Word([]))
        self.assertEqual(str(Word.read("a a'").turned(1)), "a' a")

    def test_then(self):
        one, other, empty = words("a b", "b' a", "-")
        self.assertEqual(str(one.then(other)), "a b b' a")
        self.assertEqual((one.then(empty), empty.then(one), empty.then(other=empty)), (one, one, empty))

    def test_then_of_500_and_501_letters(self):
        self.assertEqual(len(Word([1] * 250).then(Word([2] * 250))), 500)
        self.told(TooMany("letters", 500), Word([1] * 250).then, Word([2] * 251))
        self.told(TooMany("letters", 500), Word([1] * 500).then, Word([-1]))
        self.assertEqual(len(Word([1] * 500).then(Word([]))), 500)

    def test_times(self):
        word = Word.read("a b'")
        texts = [str(word.times(number)) for number in (-2, -1, 0, 1, 2, 3)]
        self.assertEqual(texts, ["b a' b a'", "b a'", "-", "a b'", "a b' a b'", "a b' a b' a b'"])
        for number in (-10 ** 90, -1, 0, 1, 10 ** 90):
            self.assertEqual(Word([]).times(number), Word([]))
        self.assertEqual(str(Word.read("a a'").times(number=2)), "a a' a a'")

    def test_times_of_500_and_501_letters(self):
        self.assertEqual(len(Word([1]).times(500)), 500)
        self.assertEqual(Word([1]).times(-500).letters, (-1,) * 500)
        for number in (501, -501, 10 ** 90, -10 ** 90):
            self.told(TooMany("letters", 500), Word([1]).times, number)
        self.told(TooMany("letters", 500), Word([1] * 167).times, -3)
        self.assertEqual(len(Word([1] * 250).times(2)), 500)
        self.told(TooMany("letters", 500), Word([1] * 251).times, 2)

    def test_exchange(self):
        self.assertEqual(str(Word.exchange(*words("a b", "c"))), "a b c b' a' c'")
        self.assertEqual(str(Word.exchange(*words("a", "a"))), "a a a' a'")
        self.assertEqual(str(Word.exchange(*words("-", "a b"))), "a b b' a'")
        self.assertEqual(str(Word.exchange(one=Word([]), other=Word([]))), "-")

    def test_exchange_of_500_and_more_letters(self):
        self.assertEqual(len(Word.exchange(Word([1] * 100), Word([2] * 150))), 500)
        self.told(TooMany("letters", 500), Word.exchange, Word([1] * 100), Word([2] * 151))
        self.told(TooMany("letters", 500), Word.exchange, Word([1] * 500), Word([]))

    def test_many_of(self):
        word = Word.read("a b a' a a")
        self.assertEqual([word.many_of(letter) for letter in (1, -1, 2, -2, 26, -26)], [3, 1, 1, 0, 0, 0])
        self.assertEqual(Word([]).many_of(letter=1), 0)

    def test_nothing_changes(self):
        word, other = words("a b b' a'", "c")
        for call in (word.contrary, word.shortened, word.shortened_round, lambda: word.turned(1),
                     lambda: word.then(other), lambda: word.times(-3), lambda: Word.exchange(word, other)):
            call()
        self.assertEqual((str(word), str(other)), ("a b b' a'", "c"))
        self.assertEqual((word.length, word.is_short, word.kinds), (4, False, (1, 2)))


class Refused(Case):
    def test_wrong_numbers(self):
        word = Word([1, 2])
        self.wrong_among(word.turned, lambda value: BadNumber("by"), ([1], word))
        self.wrong_among(word.times, lambda value: BadNumber("number"), ([1], word))
        self.wrong_among(Word([]).turned, lambda value: BadNumber("by"))
        self.wrong_among(Word([]).times, lambda value: BadNumber("number"))

    def test_wrong_letters(self):
        self.wrong_among(Word([1]).many_of, NoLetter, (0, 27, -27, 10 ** 90, [1], Word([1])))

    def test_wrong_words(self):
        more = (1, [1], (1, 2), "a b")
        self.wrong_among(Word([1]).then, lambda value: BadWord("other"), more)
        self.wrong_among(lambda value: Word.exchange(value, value), lambda value: BadWord("one"), more)
        self.wrong_among(lambda value: Word.exchange(Word([1]), value), lambda value: BadWord("other"), more)
        self.told(BadWord("other"), Word.exchange, Word([1] * 500), None)


class Texts(Case):
    def test_texts_of_words(self):
        draws = Draws(2)
        for _ in range(200):
            word = draws.word(30, 26)
            self.assertEqual(str(word), text_of(word.letters))
            self.assertEqual(Word.read(str(word)), word)
        self.assertEqual(str(Word(list(range(1, 27)))), "a b c d e f g h i j k l m n o p q r s t u v w x y z")
        self.assertEqual(str(Word([])), "-")
        self.assertEqual(Word.read(text="-"), Word([]))

    def test_items_that_cannot_stand(self):
        for text, item in (
                ("", 0), (" ", 0), (" a", 0), ("a ", 1), ("a  b", 1), ("a b' '", 2), ("'", 0), ("a''", 0), ("'a", 0),
                ("A", 0), ("ab", 0), ("a b c1", 2), ("1", 0), ("0", 0), ("-1", 0), ("--", 0), ("- a", 1), ("- -", 1),
                ("- ", 1), ("-  a", 1), ("a -", 1), ("a b -", 2), ("a'b", 0), ("a\tb", 0), ("a\n", 0), ("a b\n", 1),
                ("\u00e4", 0), ("a \uff41", 1), ("a\u2019", 0), ("a\u00a0b", 0), ("a /", 1), ("a' -a", 1),
                ("a " + "1" * 60, 1), ("1" * 61, 0), ("a " * 3, 3), ("z' z z'a", 2)):
            with self.subTest(text=text):
                self.told(BadText(0, item), Word.read, text)

    def test_no_strings(self):
        for value in WRONG + (1, ["a"], Word([1]), b"a"):
            if not isinstance(value, str):
                self.told(BadText(0, 0), Word.read, value)

    def test_500_and_501_letters(self):
        text = " ".join(["a", "b'"] * 250)
        self.assertEqual(len(Word.read(text)), 500)
        for more in (" a", " ", " ?", " -", " a a a"):
            self.told(BadText(0, 500), Word.read, text + more)
        self.told(BadText(0, 499), Word.read, " ".join(["a"] * 499 + ["?", "a", "a"]))
        self.told(BadText(0, 500), Word.read, " ".join(["a"] * 10000))

    def test_each_text_that_is_read_is_told_again(self):
        draws = Draws(3)
        for _ in range(400):
            items = [draws.one_of(["a", "b'", "-", "", "'", "ab", "c", "/"]) for _ in range(1 + draws.below(4))]
            text = " ".join(items)
            try:
                self.assertEqual(str(Word.read(text)), text)
            except BadText as error:
                at = error.item
                self.assertTrue(items[:at] == ["-"] or at == 0 or Word.read(" ".join(items[:at])))
                if items[:at] != ["-"]:
                    self.assertNotIn(items[at], ["a", "b'", "c"])

import re

from handlerims.errors import BadText, BadWord, NoPlace, TooMany, Unbalanced
from handlerims.rims import Rims
from handlerims.words import Word
from tests.cases import WRONG, Case, rims, words
from tests.draws import Draws


class Made(Case):
    def test_attributes(self):
        three = Rims(words("a b c", "c'", "b' a'"))
        self.assertEqual(three.words, tuple(words("a b c", "c'", "b' a'")))
        self.assertEqual((three.letters, three.many, three.bands), ((1, 2, 3, -3, -2, -1), 6, 3))
        for value in (three.words, three.letters):
            self.assertIs(type(value), tuple)
        self.assertIs(three.is_short, True)

    def test_short_exactly_if_each_word_is_short_round(self):
        for text, answer in (("a a'", False), ("a / a'", True), ("a b a' / b'", False), ("a b a' b'", True),
                             ("a b / b' a'", True), ("a b b' / a'", False), ("a / b a' b'", False)):
            self.assertIs(rims(text).is_short, answer)

    def test_equal(self):
        self.assertTrue(rims("a / a'") == Rims([Word([1]), Word([-1])]))
        self.assertTrue(Rims(words=(Word([1, -1]),)) == Rims([Word([1, -1])]))
        for other in (rims("a' / a"), rims("a a'"), None, "a / a'", (Word([1]), Word([-1])), Word([1, -1])):
            self.assertIs(rims("a / a'") == other, False)
            self.assertIs(rims("a / a'") != other, True)

    def test_one_to_four_words(self):
        for many in (1, 2, 3, 4):
            self.assertEqual(len(Rims([Word([1, -1])] * many).words), many)
        self.told(BadWord("words"), Rims, [Word([1, -1])] * 5)
        self.told(BadWord("words"), Rims, [])
        self.told(BadWord("words"), Rims, ())

    def test_no_list_of_words(self):
        one = Word([1, -1])
        for value in WRONG + (1, one, [1], "a a'", [one, None], [one, Word([])], [Word([])], [[1, -1]], [one, (1, -1)],
                              {0: one}, [one, rims("a a'")], [one, "a"], [one, True]):
            self.told(BadWord("words"), Rims, value)

    def test_24_and_more_letters(self):
        self.assertEqual(Rims([Word([1] * 12 + [-1] * 12)]).bands, 12)
        self.assertEqual(Rims([Word([1] * 6), Word([-1] * 6)] * 2).many, 24)
        self.told(TooMany("letters", 24), Rims, [Word([1] * 13 + [-1] * 13)])
        self.told(TooMany("letters", 24), Rims, [Word([1] * 24), Word([2])])
        self.told(TooMany("letters", 24), Rims, [Word([1] * 500)] * 4)
        self.told(BadWord("words"), Rims, [Word([1] * 500)] * 5)
        self.told(BadWord("words"), Rims, [Word([1] * 500), Word([])])

    def test_the_least_kind_that_is_not_balanced(self):
        for texts, kind in ((["a"], 1), (["a", "b"], 1), (["z", "y"], 25), (["a b", "a'"], 2), (["c b", "c'"], 2),
                            (["a a'", "b' b'", "d"], 2), (["z' z'", "z"], 26), (["b b'", "a a", "a'"], 1)):
            self.told(Unbalanced(kind), Rims, words(*texts))

    def test_what_is_passed_is_copied(self):
        given = words("a", "a'")
        made = Rims(given)
        given.append(Word([1]))
        self.assertEqual(str(made), "a / a'")


class Places(Case):
    def test_next_and_rim(self):
        three = rims("a b c / c' / b' a'")
        self.assertEqual([three.next(place) for place in range(6)], [1, 2, 0, 3, 5, 4])
        self.assertEqual([three.rim_of(place) for place in range(6)], [0, 0, 0, 1, 2, 2])
        self.assertEqual((three.next(place=3), three.rim_of(place=5)), (3, 2))
        self.assertEqual([rims("a / a' / b / b'").next(place) for place in range(4)], [0, 1, 2, 3])

    def test_next_by_the_turned_words(self):
        draws = Draws(30)
        for _ in range(60):
            made = draws.rims(1 + draws.below(4), 2 + draws.below(9), 3)
            first = 0
            for number, word in enumerate(made.words):
                turned = word.turned(1)
                for at in range(len(word)):
                    self.assertEqual(made.letters[made.next(first + at)], turned.letters[at])
                    self.assertEqual(made.rim_of(first + at), number)
                first += len(word)
            self.assertEqual(sorted(made.next(place) for place in range(made.many)), list(range(made.many)))

    def test_no_places(self):
        two = rims("a b / b' a'")
        for call in (two.next, two.rim_of):
            self.wrong_among(call, NoPlace, (-1, 4, 24, 10 ** 90, -10 ** 90, [0], (1,)))


class Texts(Case):
    def test_texts_of_rims(self):
        for text in ("a a'", "a / a'", "a b / b' a'", "z' / z / y y'", "a / b / a' / b'", "a b a' b'"):
            self.assertEqual(str(rims(text)), text)
            self.assertEqual(Rims.read(text=text), rims(text))
        draws = Draws(31)
        for _ in range(60):
            made = draws.rims(1 + draws.below(4), 2 + draws.below(11), 26)
            self.assertEqual(Rims.read(str(made)), made)
            self.assertEqual(str(made), " / ".join(str(word) for word in made.words))

    def test_items_that_cannot_stand(self):
        long = " ".join(["a", "a'"] * 12)
        for text, item in (
                ("", 0), ("/", 0), ("a", 0), ("a b", 1), ("a /", 2), ("a / ", 2), ("a a' /", 3), ("a a' / ", 3),
                ("a / / a'", 2), ("/ a a'", 0), ("a / b / a' / b' /", 7), ("a / b / a' / b' / c", 7), ("a  a'", 1),
                ("a a' ", 2), (" a a'", 0), ("-", 0), ("a - a'", 1), ("a a' a", 2), ("a / b a' b", 4), ("a/a'", 0),
                ("a // a'", 1), ("a ' a'", 1), ("a b / a' c", 4), (long + " a", 24), (long + " /", 24),
                (long + " ", 24), (long + " / a a'", 24), (long[:-3] + " /", 24), (long[:-3], 22), (long + "x", 23),
                ("a / a /", 4),
                ("a / b / a' /", 6), ("1", 0), ("a a' 1", 2), ("a a' " + "1" * 61, 2)):
            with self.subTest(text=text):
                self.told(BadText(0, item), Rims.read, text)

    def test_no_strings(self):
        for value in WRONG + (1, ["a"], Word([1]), rims("a a'")):
            if not isinstance(value, str):
                self.told(BadText(0, 0), Rims.read, value)

    def test_24_letters_in_words(self):
        text = " / ".join(["a a' b b' c c'"] * 4)
        self.assertEqual(rims(text).many, 24)
        self.told(BadText(0, 27), Rims.read, text + " /")
        self.told(BadText(0, 27), Rims.read, text + " a")
        self.told(BadText(0, 26), Rims.read, text[:-2] + "d'")

    def first_wrong(self, items):
        """The index that is told for these items, reckoned with patterns; None if they tell rims."""
        marks = "".join("l" if re.fullmatch("[a-z]'?", item) else "s" if item == "/" else "x" for item in items)
        for end in range(1, len(marks) + 1):
            ahead = marks[:end]
            fits = re.fullmatch("l+(sl+){0,3}|l+(sl+){0,2}s", ahead) and ahead.count("l") <= 24
            if not fits or ahead.count("l") == 24 and ahead.endswith("s"):
                return end - 1
        if marks.endswith("s"):
            return len(items)
        told = [item for item in items if item != "/"]
        if any(told.count(item[0]) != told.count(item[0] + "'") for item in told):
            return len(items) - 1
        return None

    def test_texts_with_an_item_exchanged_put_in_or_left_out(self):
        draws = Draws(32)
        read = 0
        for _ in range(1500):
            items = str(draws.rims(1 + draws.below(4), 2 + draws.below(11), 2)).split(" ")
            for _ in range(draws.below(3)):
                at, deed = draws.below(len(items)), draws.below(3)
                item = draws.one_of(["a", "a'", "b", "b'", "/", "", "-", "c", "ab", "'"])
                items[at:at + (deed > 0)] = [item] if deed < 2 else []
                items = items or [""]
            text, wrong = " ".join(items), self.first_wrong(items)
            if wrong is None:
                self.assertEqual(str(Rims.read(text)), text)
                read += 1
            else:
                self.told(BadText(0, wrong), Rims.read, text)
        self.assertTrue(300 < read < 1200)

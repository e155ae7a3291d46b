import itertools

from handlerims.errors import BadWord
from handlerims.rings import NoRoot, Root, common_root, go_past, least_turned, root_of, turn_to
from handlerims.words import Word
from tests.cases import Case, words
from tests.draws import Draws


def short_words(most, kinds):
    """All short words with at most so many letters."""
    signs = [sign for sign in range(-kinds, kinds + 1) if sign != 0]
    for many in range(most + 1):
        for letters in itertools.product(signs, repeat=many):
            word = Word(letters)
            if word.is_short:
                yield word


class Turns(Case):
    def test_turn_to(self):
        for one, other, turn in (("a b b", "b a b", 2), ("a", "a", 0), ("a", "b", None), ("a b", "a b", 0),
                                 ("a b", "b a", 1), ("a b a b", "b a b a", 1), ("a a a", "a a a", 0), ("-", "-", 0),
                                 ("-", "a", None), ("a", "-", None), ("a b", "a b a b", None), ("a a'", "a' a", 1),
                                 ("a b c", "b' a' c'", None), ("a a'", "-", None), ("a b c d", "d a b c", 3)):
            self.assertEqual(turn_to(*words(one, other)), turn)
        self.assertEqual(turn_to(other=Word([1, 2]), one=Word([2, 1])), 1)

    def test_turn_to_by_trying_all(self):
        draws = Draws(4)
        for _ in range(200):
            one = draws.word(8, 1)
            other = one.turned(draws.below(20)) if draws.below(4) else draws.word(8, 1)
            turns = [turn for turn in range(max(1, len(one))) if one.turned(turn) == other]
            self.assertEqual(turn_to(one, other), turns[0] if turns else None)

    def test_least_turned(self):
        for text, answer in (("a b' c", "b' c a"), ("-", "-"), ("a", "a"), ("b a", "a b"), ("a a' b b'", "b' a a' b"),
                             ("b a a", "a a b"), ("a a' a a'", "a' a a' a"), ("a b a a", "a a a b")):
            self.assertEqual(str(least_turned(Word.read(text))), answer)

    def test_least_turned_is_the_same_for_each_turn(self):
        draws = Draws(5)
        for _ in range(100):
            word = draws.word(12, 2)
            least = least_turned(word)
            self.assertEqual(least.letters, sorted(word.turned(by).letters for by in range(len(word) + 1))[0])
            self.assertEqual(least_turned(word.turned(draws.below(50))), least)

    def test_500_letters(self):
        word = Word([1] * 499 + [-2])
        self.assertEqual(least_turned(word).letters, (-2,) + (1,) * 499)
        self.assertEqual(turn_to(word, least_turned(word)), 499)
        self.assertEqual(turn_to(word, Word([2] * 500)), None)


class Roots(Case):
    def test_root_of(self):
        for text, root, many in (("a", "a", 1), ("a a a", "a", 3), ("a b a b", "a b", 2), ("a b a", "a b a", 1),
                                 ("a a'", "a a'", 1), ("a a' a a'", "a a'", 2), ("a b' a b' a b'", "a b'", 3),
                                 ("a a a a", "a", 4), ("a a b a a b", "a a b", 2), ("a a' a", "a a' a", 1)):
            self.assertEqual(root_of(Word.read(text)), (Word.read(root), many))
        self.assertIs(type(root_of(Word([1]))), tuple)

    def test_root_of_many_times(self):
        draws = Draws(6)
        for _ in range(100):
            word = Word(draws.letters(5, 2) + [3])
            many = 1 + draws.below(8)
            self.assertEqual(root_of(word.times(many)), (word, many))
        self.assertEqual(root_of(Word([1] * 500)), (Word([1]), 500))
        self.assertEqual(root_of(word=Word([1] * 499)), (Word([1]), 499))

    def test_no_root_of_the_empty_word(self):
        self.told(BadWord("word"), root_of, Word([]))


class Past(Case):
    def test_go_past(self):
        for one, other, answer in (("-", "-", True), ("a", "-", True), ("a", "b", False), ("a", "a'", True),
                                   ("a b", "a b a b", True), ("a b", "b a", False), ("a b a'", "a b b a'", True),
                                   ("a", "a b' b", True), ("a b b'", "a a", True), ("a b a'", "b", False)):
            one, other = words(one, other)
            self.assertIs(go_past(one, other), answer)
            self.assertIs(go_past(one=other, other=one), answer)

    def test_words_that_are_long_together(self):
        self.assertIs(go_past(Word([1, 2] * 250), Word([1, 2] * 200)), True)
        self.assertIs(go_past(Word([1] * 500), Word([2] * 500)), False)
        found = common_root(Word([1, 2] * 250), Word([-2, -1] * 200))
        self.assertEqual((str(found.root), found.here, found.there), ("a b", 250, -200))

    def test_common_root(self):
        for one, other, root, here, there in (
                ("a", "a", "a", 1, 1), ("a a", "a' a' a'", "a", 2, -3), ("a' a'", "a", "a'", 2, -1),
                ("-", "-", "-", 0, 0), ("a a'", "b b'", "-", 0, 0), ("a b", "-", "a b", 1, 0),
                ("-", "b b b", "b", 0, 3), ("a a'", "b a b b' a b'", "b a b'", 0, 2),
                ("a b b a'", "a b' a' c c'", "a b a'", 2, -1),
                ("a b a b", "b' a' b' a' b' a'", "a b", 2, -3), ("a b c b' a'", "a b c c b' a'", "a b c b' a'", 1, 2)):
            found = common_root(*words(one, other))
            self.assertIsInstance(found, Root)
            self.assertEqual(found, Root(Word.read(root), here, there))
            self.assertIs(bool(found), True)

    def test_no_common_root(self):
        for one, other in (("a", "b"), ("a b", "b a"), ("a b a'", "b"), ("a a b", "a b")):
            found = common_root(*words(one, other))
            self.assertEqual(found, NoRoot())
            self.assertIs(bool(found), False)

    def test_no_other_root_fits(self):
        roots = [root for root in short_words(4, 2) if len(root) > 0]
        powers = {}
        for root in roots:
            for many in range(2, 5):
                powers[root.times(many).shortened().letters] = True
        roots = [root for root in roots if root.letters not in powers]
        table = {}
        for root in roots:
            for many in range(-4, 5):
                table.setdefault(root.times(many).shortened().letters, []).append((root.letters, many))
        checked = 0
        for one in short_words(4, 2):
            for other in short_words(3, 2):
                if len(one) + len(other) == 0:
                    continue
                fits = [(root, here, there) for root, here in table[one.letters] for low, there in table[other.letters]
                        if root == low and (here > 0 or here == 0 and there > 0)]
                found = common_root(one, other)
                told = [(found.root.letters, found.here, found.there)] if found else []
                self.assertEqual(told, fits)
                checked += len(fits)
        self.assertGreater(checked, 400)


class Refused(Case):
    def test_wrong_words(self):
        more = (1, [1], "a b", (Word([1]),))
        for call in (least_turned, root_of):
            self.wrong_among(call, lambda value: BadWord("word"), more)
        for call in (turn_to, go_past, common_root):
            self.wrong_among(lambda value: call(value, value), lambda value: BadWord("one"), more)
            self.wrong_among(lambda value: call(Word([1]), value), lambda value: BadWord("other"), more)
            self.wrong_among(lambda value: call(value, Word([1])), lambda value: BadWord("one"), more)

from handlerims.errors import BadWord, TooMany, Unbalanced
from handlerims.parted import NotParted, Parted, parted
from handlerims.rims import Rims
from handlerims.words import Word
from tests.cases import Case
from tests.draws import Draws

LOOP = Word([1, 2, -1, -2])


def partings(ring):
    """All that part a word that is short round: quadruples of a turn and three tuples of letters."""
    half = len(ring) // 2
    found = []
    for turn in range(max(1, len(ring))):
        turned = ring.turned(turn)
        for one in range(half + 1):
            for two in range(one, half + 1):
                x, y, z = [Word(turned.letters[at:end]) for at, end in ((0, one), (one, two), (two, half))]
                made = x.then(y).then(z).then(x.contrary()).then(y.contrary()).then(z.contrary())
                if made == turned:
                    found.append((turn, x, y, z))
    return found


class PartedWords(Case):
    def holds(self, word, found):
        self.assertIsInstance(found, Parted)
        self.assertIs(bool(found), True)
        made = found.x.then(found.y).then(found.z)
        for part in (found.x, found.y, found.z):
            made = made.then(part.contrary())
        ring = word.shortened_round()
        self.assertEqual(ring.turned(found.turn), made)
        self.assertTrue(0 <= found.turn < max(1, len(ring)))

    def test_parted(self):
        for text in ("a b a' b'", "a b c a' b' c'", "a b b a' b' b'", "c a b a' b' c'", "a' b c a c' b'",
                     "a a b a' b' a'", "b c c' a' b' a", "a b c d e c' b' a' e' d'", "a a a b a' b' a' a'",
                     "a b b a' b a b' a' b' a b' a'"):
            word = Word.read(text)
            self.holds(word, parted(word))
        self.holds(LOOP, parted(word=LOOP))

    def test_not_parted(self):
        for text in ("a b a' b' a b a' b'", "a b a' b' c d c' d'", "a b c d a' b' c' d'", "a b c d e d' a' c' b' e'"):
            found = parted(Word.read(text))
            self.assertEqual(found, NotParted())
            self.assertEqual((found.word, found.parts, bool(found)), ("notparted", (), False))

    def test_of_nothing(self):
        for text in ("-", "a a'", "a b b' a'"):
            self.assertEqual(parted(Word.read(text)), Parted(0, Word([]), Word([]), Word([])))

    def test_by_going_through_all_partings(self):
        draws = Draws(51)
        yes = 0
        for _ in range(300):
            word = Word(draws.balanced(draws.below(6), 3))
            ring = word.shortened_round()
            found, told = parted(word), partings(ring)
            self.assertIs(bool(found), told != [])
            if found:
                self.assertIn(found.parts, told)
                yes += len(ring) > 0
            self.assertEqual(parted(Word(word.letters)), found)
        self.assertTrue(100 < yes < 290)

    def test_48_and_more_letters_shortened_round(self):
        x, y, z = Word([1, 2] * 4), Word([3, 4, 1] * 2 + [2, 2]), Word([5, 6] * 4)
        word = x.then(y).then(z).then(x.contrary()).then(y.contrary()).then(z.contrary())
        self.assertEqual(len(word.shortened_round()), 48)
        for by in (0, 1, 17, 40):
            self.holds(word.turned(by), parted(word.turned(by)))
        ends = Word([7, 8] * 113)
        self.holds(ends.then(word).then(ends.contrary()), parted(ends.then(word).then(ends.contrary())))
        self.assertEqual(parted(LOOP.times(12)), NotParted())
        self.told(TooMany("letters", 48), parted, LOOP.times(13))
        self.told(TooMany("letters", 48), parted, Word(list(range(1, 26)) + list(range(-1, -26, -1))))
        self.told(Unbalanced(9), parted, LOOP.times(13).then(Word([9])))

    def test_the_least_kind_that_is_not_balanced(self):
        for text, kind in (("a", 1), ("b a", 1), ("b'", 2), ("a b a'", 2), ("z y", 25)):
            self.told(Unbalanced(kind), parted, Word.read(text))

    def test_wrong_words(self):
        self.wrong_among(parted, lambda value: BadWord("word"), (1, [1, -1], "a a'", Rims([LOOP])))

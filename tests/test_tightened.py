from handlerims.errors import BadSewing, BadWord, Misfit, TooMany
from handlerims.exchanged import without_pair
from handlerims.rims import Rims
from handlerims.sewings import Sewing, all_sewings
from handlerims.spellings import Spelling, product_of
from handlerims.tightened import sewing_of, tightened
from handlerims.words import Word
from tests import sewn
from tests.cases import NO_LISTS, Case, rims
from tests.draws import Draws

A, B, C, EMPTY = Word([1]), Word([2]), Word([3]), Word([])


def filled(draws, most, kinds):
    return Word([draws.letter(kinds) for _ in range(1 + draws.below(most))])


class SewingOf(Case):
    def test_sewings(self):
        for texts, ring, mates in (
                ([("a", "b")], "a b a' b'", (2, 3, 0, 1)), ([("a b", "c")], "a b c b' a' c'", (4, 3, 5, 1, 0, 2)),
                ([("a", "b"), ("b", "a")], "a b a' b' b a b' a'", (2, 3, 0, 1, 6, 7, 4, 5)),
                ([("a a'", "b")], "a a' b a a' b'", (4, 3, 5, 1, 0, 2)), ([("a", "a")], "a a a' a'", (2, 3, 0, 1))):
            pairs = [(Word.read(x), Word.read(y)) for x, y in texts]
            found = sewing_of(pairs)
            self.assertEqual((str(found.rims), found.mates), (ring, mates))
            self.assertEqual(sewing_of(pairs=tuple([list(pair) for pair in pairs])), found)

    def test_each_letter_has_its_mate_in_the_contrary(self):
        draws = Draws(87)
        for _ in range(150):
            pairs = [(filled(draws, 2, 3), filled(draws, 2, 3)) for _ in range(1 + draws.below(3))]
            letters, mates = [], []
            for x, y in pairs:
                first, second = len(letters), len(letters) + len(x)
                third = second + len(y)
                last = third + len(x)
                mates += [third + len(x) - 1 - at for at in range(len(x))]
                mates += [last + len(y) - 1 - at for at in range(len(y))]
                mates += [first + len(x) - 1 - at for at in range(len(x))]
                mates += [second + len(y) - 1 - at for at in range(len(y))]
                letters += x.letters + y.letters + x.contrary().letters + y.contrary().letters
            if len(letters) <= 24:
                found = sewing_of(pairs)
                self.assertEqual((found.rims, found.mates), (Rims([Word(letters)]), tuple(mates)))
                self.assertEqual(sewn.ring_handles(mates), len(pairs))

    def test_24_letters_and_more(self):
        self.assertEqual(sewing_of([(A.times(6), B.times(6))]).rims.many, 24)
        self.assertEqual(sewing_of([(A, B)] * 6).rims.many, 24)
        for pairs in ([(A.times(7), B.times(6))], [(A, B)] * 7, [(A, B)] * 12, [(A.times(500), B.times(500))] * 12):
            self.told(TooMany("letters", 24), sewing_of, pairs)

    def test_no_pairs_and_empty_words(self):
        for pairs in ([], (), [(A, EMPTY)], [(EMPTY, A)], [(A, B), (EMPTY, EMPTY)], [(A.times(500), EMPTY)],
                      [(A, B)] * 11 + [(A, EMPTY)]):
            self.told(Misfit("empty"), sewing_of, pairs)

    def test_no_list_of_pairs_of_words(self):
        for value in NO_LISTS + (1, [A, B], (A, B), [(A,)], [(A, B, C)], [(A, (2,))], [(EMPTY, None)], [(A, B)] * 13,
                                 [(EMPTY, B)] * 13, Spelling([(A, B)]), [(A, EMPTY), 5]):
            self.told(BadWord("pairs"), sewing_of, value)


class Tightened(Case):
    def test_tightened(self):
        for text, mates, ring, left in (
                ("a b a' b'", [2, 3, 0, 1], "a b a' b'", (2, 3, 0, 1)),
                ("a b a' b' b c b' c'", [2, 3, 0, 1, 6, 7, 4, 5], "a b a' c b' c'", (2, 4, 0, 5, 1, 3)),
                ("b' c a c' a' b", [5, 3, 4, 1, 2, 0], "c a c' a'", (2, 3, 0, 1)),
                ("c a a' b c' b'", [4, 2, 1, 5, 0, 3], "c b c' b'", (2, 3, 0, 1))):
            found = tightened(Sewing(rims(text), mates))
            self.assertEqual((str(found.rims), found.mates), (ring, left))

    def test_nothing_is_left(self):
        for text in ("a a'", "a' a", "a b b' a'", "a a' b b'", "a a a' a'", "a b a' a b' a'"):
            for sewing in all_sewings(rims(text)):
                self.assertIs(tightened(sewing=sewing), None)
        self.assertIs(tightened(sewing_of([(A, B), (B, A)])), None)

    def test_the_least_place_each_time(self):
        draws = Draws(88)
        left = 0
        for _ in range(250):
            made = draws.rims(1, 2 + draws.below(11), 1 + draws.below(3))
            sewing = now = Sewing(made, draws.mates(made))
            while now is not None:
                letters = now.rims.letters
                places = [at for at in range(len(letters)) if letters[at] == -letters[(at + 1) % len(letters)]]
                if not places:
                    break
                now = without_pair(now, places[0]) if len(letters) > 2 else None
            self.assertEqual(tightened(sewing), now)
            ring = made.words[0].shortened_round()
            self.assertEqual(now is None, len(ring) == 0)
            if now is not None:
                self.assertEqual(now.rims.words, (ring,))
                self.assertLessEqual(now.cost, sewing.cost)
                self.assertEqual((sewing.cost - now.cost) % 2, 0)
                left += 1
        self.assertGreater(left, 80)

    def test_a_spelling_shows_how_many_handles_are_enough(self):
        draws = Draws(89)
        for _ in range(150):
            pairs = [(filled(draws, 3, 2), filled(draws, 2, 2)) for _ in range(1 + draws.below(2))]
            if 2 * sum(len(word) for pair in pairs for word in pair) <= 24:
                found = tightened(sewing_of(pairs))
                ring = product_of(pairs).shortened_round()
                self.assertEqual(0 if found is None else len(found.rims.words[0]), len(ring))
                if found is not None:
                    self.assertLessEqual(found.handles, len(pairs))
                    self.assertIs(found.rims.is_short, True)

    def test_errors(self):
        more = (1, rims("a a'"), A, [1, 0], Spelling([]))
        self.wrong_among(tightened, lambda value: BadSewing("sewing"), more)
        for text in ("a / a'", "a a' / b b'", "a / a' / b / b'"):
            self.told(Misfit("rims"), tightened, all_sewings(rims(text))[0])

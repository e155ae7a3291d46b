from handlerims.errors import BadNumber, BadSewing, BadWord, Misfit, TooMany, Unbalanced
from handlerims.rims import Rims
from handlerims.sewings import Sewing, all_sewings
from handlerims.spelled import rounds_spelled, spelled, spelled_word
from handlerims.spellings import Spelling, product_of
from handlerims.words import Word
from tests import sewn
from tests.cases import Case, rims
from tests.draws import Draws
from tests.matrices import product
from tests.test_spellings import table_of_pairs

LOOP, EMPTY = Word([1, 2, -1, -2]), Word([])


class Checked(Case):
    def spells(self, found, word, pairs):
        """Check that the Spelling spells the word, by so many pairs of shortened words."""
        self.assertIs(type(found), Spelling)
        self.assertEqual(len(found.pairs), pairs)
        self.assertEqual(table_of_pairs(found.pairs), product(word.letters))
        self.assertTrue(all(part.is_short for pair in found.pairs for part in pair))


class OfSewings(Checked):
    def test_by_as_many_pairs_as_handles(self):
        draws = Draws(84)
        seen = set()
        for _ in range(300):
            made = draws.rims(1, 1 + draws.below(12), 1 + draws.below(4))
            sewing = Sewing(made, draws.mates(made))
            self.spells(spelled(sewing), made.words[0], sewn.ring_handles(sewing.mates))
            self.assertEqual(spelled(Sewing(made, sewing.mates)), spelled(sewing))
            seen.add(sewing.handles)
        self.assertEqual(seen & {0, 1, 2, 3, 4, 5}, {0, 1, 2, 3, 4, 5})

    def test_all_sewings_of_some_rings(self):
        for text in ("a b a' b' a b a' b'", "a a a a' a' a'", "a a' b b' a a' b b'", "a b c a' b' c'",
                     "a a b a' b' a'"):
            for sewing in all_sewings(rims(text)):
                self.spells(spelled(sewing=sewing), Word.read(text), sewing.handles)

    def test_nothing_across_or_much(self):
        for text, mates, pairs in (("a a'", [1, 0], 0), ("a b b' a'", [3, 2, 1, 0], 0), ("a' a b b'", [1, 0, 3, 2], 0),
                                   ("a b a' b'", [2, 3, 0, 1], 1)):
            self.spells(spelled(Sewing(rims(text), mates)), Word.read(text), pairs)
        most = Rims([Word(list(range(1, 13)) + list(range(-1, -13, -1)))])
        self.spells(spelled(Sewing(most, list(range(12, 24)) + list(range(12)))), most.words[0], 6)

    def test_errors(self):
        one = Sewing(rims("a b a' b'"), [2, 3, 0, 1])
        more = (1, rims("a b a' b'"), LOOP, one.mates, Spelling([]))
        self.wrong_among(spelled, lambda value: BadSewing("sewing"), more)
        for text in ("a / a'", "a a' / a a'", "a / a' / b / b'"):
            for sewing in all_sewings(rims(text)):
                self.told(Misfit("rims"), spelled, sewing)


class OfWords(Checked):
    def test_by_as_many_pairs_as_the_word_has_handles(self):
        draws = Draws(85)
        for _ in range(150):
            end = draws.word(6, 4)
            word = end.then(Word(draws.balanced(draws.below(6), 3))).then(end.contrary())
            ring = word.shortened_round()
            fewest = sewn.fewest_ring_handles(ring.letters) if len(ring) > 0 else 0
            self.spells(spelled_word(word), word, fewest)
            self.assertEqual(spelled_word(word=Word(word.letters)), spelled_word(word))

    def test_words_that_shorten_to_nothing(self):
        for word in (EMPTY, Word([1, -1]), Word([1] * 250 + [-1] * 250), Word([3, 1, -1, -3, 2, -2])):
            self.assertEqual(spelled_word(word), Spelling([]))

    def test_the_word_is_not_turned(self):
        for by in range(4):
            word = LOOP.turned(by)
            self.assertEqual(product_of(spelled_word(word).pairs), word)
        self.assertEqual(product_of(spelled_word(Word([3, 1, 2, -1, -2, -3])).pairs), Word([3, 1, 2, -1, -2, -3]))

    def test_100_letters_and_more_when_it_is_shortened(self):
        for many, fits in ((48, True), (49, False)):
            end = Word([3] * many)
            word = end.then(LOOP).then(end.contrary())
            if fits:
                self.spells(spelled_word(word), word, 1)
                # Too many only before it is shortened.
                more = Word([5, -5] * 190).then(word)
                self.spells(spelled_word(more), word, 1)
            else:
                self.told(TooMany("letters", 100), spelled_word, word)
        end = Word([3] * 38)
        twelve = Word(list(range(1, 13)) + list(range(-1, -13, -1)))
        self.spells(spelled_word(end.then(twelve).then(end.contrary())), end.then(twelve).then(end.contrary()), 6)

    def test_errors_in_order(self):
        self.wrong_among(spelled_word, lambda value: BadWord("word"), (1, [1, -1], "a a'", Spelling([])))
        end = Word([9] * 60)
        for word, error in ((LOOP.times(7), TooMany("letters", 24)), (LOOP.times(5), TooMany("sewings", 720)),
                            (LOOP.times(4), TooMany("letters", 100))):
            self.told(error, spelled_word, end.then(word).then(end.contrary()))
            self.told(Unbalanced(4), spelled_word, end.then(word).then(end.contrary()).then(Word([4, 4])))
        self.told(TooMany("letters", 24), spelled_word, LOOP.times(125))
        self.told(Unbalanced(1), spelled_word, Word([1] * 500))


class OfRounds(Checked):
    def test_rounds_of_words(self):
        for times in range(13):
            pairs = times // 2 + 1 if times > 0 else 0
            for one, other in ((Word([1]), Word([2])), (Word([1, 2, 1]), Word([-2, 3])), (Word([2, 2]), Word([2])),
                               (EMPTY, Word([1])), (Word([3]), EMPTY), (EMPTY, EMPTY), (Word([1, -1]), Word([4])),
                               (Word([1, 2, 3, 4, 5]), Word([-26, -25, -24, -23, -22]))):
                found = rounds_spelled(one, other, times)
                self.spells(found, Word.exchange(one, other).times(times), pairs)
                self.assertEqual(rounds_spelled(times=times, other=other, one=one), found)

    def test_drawn_ones(self):
        draws = Draws(86)
        for _ in range(60):
            one, other, times = draws.word(5, 2), draws.word(5, 2), draws.below(13)
            self.spells(rounds_spelled(one, other, times), Word.exchange(one, other).times(times),
                        times // 2 + (times > 0))

    def test_5_letters_and_more_as_they_are_passed(self):
        five, six = Word([1, 1, 1, 1, 1]), Word([1, -1, 1, -1, 1, -1])
        self.assertEqual(len(rounds_spelled(five, five, 12).pairs), 7)
        for times in (0, 1, 12):
            self.told(TooMany("letters", 5), rounds_spelled, six, five, times)
            self.told(TooMany("letters", 5), rounds_spelled, five, six, times)
            self.told(TooMany("letters", 5), rounds_spelled, six, Word([1] * 500), times)

    def test_errors_in_order(self):
        one, six = Word([1]), Word([1] * 6)
        self.wrong_among(lambda value: rounds_spelled(value, None, None), lambda value: BadWord("one"), (1, [1], "a"))
        self.wrong_among(lambda value: rounds_spelled(six, value, None), lambda value: BadWord("other"), (1, [1], "a"))
        numbers = (-1, 13, 10 ** 90, -10 ** 90, [1])
        self.wrong_among(lambda value: rounds_spelled(one, one, value), lambda value: BadNumber("times"), numbers)
        self.wrong_among(lambda value: rounds_spelled(six, six, value), lambda value: BadNumber("times"), numbers)

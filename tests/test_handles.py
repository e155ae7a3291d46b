from handlerims.errors import BadNumber, BadWord, TooMany, Unbalanced
from handlerims.handles import Handles, handles_of, most_for_rounds, rounds_of_exchange
from handlerims.rims import Rims
from handlerims.sewings import Sewing
from handlerims.words import Word
from tests import sewn
from tests.cases import Case
from tests.draws import Draws

LOOP = Word([1, 2, -1, -2])


class HandlesOf(Case):
    def test_numbers(self):
        for text, number in (("-", 0), ("a a'", 0), ("c a a' c'", 0), ("a b a' b'", 1), ("a b c a' b' c'", 1),
                             ("a b a' b' a b a' b'", 2), ("a b a' b' c d c' d'", 2), ("c a b a' b' c'", 1),
                             ("a a b a' a' b'", 1), ("a b a' b' b a b' a'", 0), ("a b c d a' b' c' d'", 2),
                             ("a b a' b' c d c' d' e f e' f'", 3)):
            self.assertEqual(handles_of(Word.read(text)).number, number)

    def test_the_paper_keeps_the_ring_and_mates_of_a_sewing_with_so_many(self):
        draws = Draws(50)
        for _ in range(150):
            word = Word(draws.balanced(draws.below(6), 3))
            found = handles_of(word=word)
            self.assertIsInstance(found, Handles)
            self.assertEqual(found.ring, word.shortened_round())
            if len(found.ring) == 0:
                self.assertEqual(found, Handles(0, Word([]), ()))
            else:
                self.assertEqual(Sewing(Rims([found.ring]), found.mates).handles, found.number)
                self.assertEqual(found.number, sewn.fewest_ring_handles(found.ring.letters))
            self.assertEqual(handles_of(Word(word.letters)), found)

    def test_words_that_shorten_to_nothing(self):
        for text in ("-", "a a'", "a b b' a'", "a b a' a b' a'", "a' a a' a"):
            found = handles_of(Word.read(text))
            self.assertEqual((found.number, found.ring.letters, found.mates), (0, (), ()))
        self.assertEqual(handles_of(Word([1] * 250 + [-1] * 250)), Handles(0, Word([]), ()))

    def test_the_least_kind_that_is_not_balanced(self):
        for text, kind in (("a", 1), ("b", 2), ("b a", 1), ("a b a'", 2), ("z' y' z", 25), ("a b a' b", 2),
                           ("a a b c' a' a' b' d", 3)):
            self.told(Unbalanced(kind), handles_of, Word.read(text))
        self.told(Unbalanced(1), handles_of, Word([1] * 500))

    def test_24_and_more_letters_shortened_round(self):
        twelve = Word(list(range(1, 13)) + list(range(-1, -13, -1)))
        self.assertEqual(handles_of(twelve).number, 6)
        ends = Word([20, 21, 22] * 79)
        moved = ends.then(twelve).then(ends.contrary())
        self.assertEqual((len(moved), handles_of(moved).number), (498, 6))
        more = Word(list(range(1, 14)) + list(range(-1, -14, -1)))
        self.told(TooMany("letters", 24), handles_of, more)
        self.told(TooMany("letters", 24), handles_of, Word([14]).then(more).then(Word([-14])))
        # That there are more letters comes ahead of more sewings, and both behind the balance.
        self.told(TooMany("letters", 24), handles_of, LOOP.times(7))
        self.told(Unbalanced(5), handles_of, LOOP.times(7).then(Word([5])))

    def test_720_and_more_sewings_shortened_round(self):
        self.assertEqual(handles_of(LOOP.times(4)).number, 3)
        self.told(TooMany("sewings", 720), handles_of, LOOP.times(5))
        self.told(TooMany("sewings", 720), handles_of, LOOP.times(6))
        seven = Word([1, 2] * 7 + [-1] * 7 + [-2] * 7)
        self.told(TooMany("letters", 24), handles_of, seven)
        most = Word.read("a b a c a d a e a f a g a' b' a' c' a' d' a' e' a' f' a' g'")
        self.assertEqual(handles_of(most).number, sewn.fewest_ring_handles(most.letters))
        # What is taken out does not count: 7 of a kind, but 6 when it is shortened round.
        self.assertEqual(handles_of(Word([1]).then(most).then(Word([-1]))).number, handles_of(most).number)

    def test_wrong_words(self):
        self.wrong_among(handles_of, lambda value: BadWord("word"), (1, [1, -1], "a a'", Rims([LOOP])))

    def test_the_word_stays(self):
        word = Word([3, 1, 2, -1, -2, -3])
        handles_of(word)
        self.assertEqual(word.letters, (3, 1, 2, -1, -2, -3))


class Rounds(Case):
    def test_rounds_of_an_exchange(self):
        self.assertEqual([rounds_of_exchange(times) for times in range(8)], [0, 1, 2, 2, 3, 3, 4, 4])
        self.assertEqual(rounds_of_exchange(times=2 * 10 ** 90), 10 ** 90 + 1)
        for times in range(5):
            self.assertEqual(rounds_of_exchange(times), handles_of(LOOP.times(times)).number)
        self.wrong_among(rounds_of_exchange, lambda value: BadNumber("times"), (-1, -10 ** 90, [1]))

    def test_most_for_rounds(self):
        for handles, times, most in ((1, 1, 1), (1, 2, 2), (1, 3, 2), (1, 4, 3), (2, 1, 2), (2, 3, 5), (3, 4, 11)):
            self.assertEqual(most_for_rounds(handles, times), most)
        for times in range(1, 30):
            self.assertEqual(most_for_rounds(1, times), rounds_of_exchange(times))
        self.assertEqual(most_for_rounds(times=2, handles=10 ** 90), 2 * 10 ** 90)

    def test_wrong_numbers(self):
        more = (0, -1, -10 ** 90, [1], LOOP)
        self.wrong_among(lambda value: most_for_rounds(value, None), lambda value: BadNumber("handles"), more)
        self.wrong_among(lambda value: most_for_rounds(1, value), lambda value: BadNumber("times"), more)
        self.told(BadNumber("handles"), most_for_rounds, 0, 0)

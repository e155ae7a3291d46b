from handlerims.check_spellings import shows_fewest, shows_spelling
from handlerims.errors import BadWord, TooMany, Unbalanced
from handlerims.handles import handles_of
from handlerims.spelled import rounds_spelled, spelled_word
from handlerims.spellings import Spelling, moved, product_of, put_in, undone
from handlerims.words import Word
from tests.cases import WRONG, Case, Odd
from tests.draws import Draws
from tests.matrices import product
from tests.test_spellings import drawn_pairs, no_spellings, table_of_pairs

LOOP, EMPTY = Word([1, 2, -1, -2]), Word([])
A, B, C = Word([1]), Word([2]), Word([3])
ONE = Spelling([(A, B)])


class ShowsSpelling(Case):
    def test_right_ones(self):
        for word, pairs in ((LOOP, [(A, B)]), (LOOP, [[A, Word([2, 1])]]), (LOOP, [(Word([1, 2]), B)]),
                            (LOOP, [(A, B), (C, C)]), (LOOP, [(EMPTY, A), (A, B), (B, EMPTY)]),
                            (LOOP, [(Word([1, 3, -3]), B)]), (Word([3, -3]).then(LOOP), [(A, B)]), (EMPTY, []),
                            (Word([1, -1]), [(A, A)]), (EMPTY, [(A, B), (B, A)]), (LOOP.times(12), [(A, B)] * 12),
                            (LOOP.turned(1), [(B, Word([-1]))]), (EMPTY, ())):
            self.assertIs(shows_spelling(word, Spelling(pairs)), True)
        self.assertIs(shows_spelling(value=ONE, word=LOOP), True)

    def test_parts_bent(self):
        for word, pairs in ((LOOP, [(B, A)]), (LOOP, []), (LOOP, [(A, B), (A, B)]), (LOOP, [(A, C)]), (EMPTY, [(A, B)]),
                            (LOOP.turned(1), [(A, B)]), (LOOP.contrary(), [(A, B)]), (LOOP.turned(2), [(A, B)]),
                            (C.then(LOOP).then(C.contrary()), [(A, B)]), (LOOP, [(A, B), (A,)]), (A, [(A, B)]),
                            (LOOP.times(12), [(A, B)] * 11), (LOOP.times(13), [(A, B)] * 13), (LOOP, [(A, B, EMPTY)]),
                            (A, []), (EMPTY, [()]), (EMPTY, [(A, A)] * 13), (LOOP, [(A.letters, B.letters)])):
            self.assertIs(shows_spelling(word, Spelling(pairs)), False)

    def test_what_is_multiplied_out_may_be_longer_than_a_word(self):
        long = Spelling([(A.times(500), B.times(500))])
        self.assertIs(shows_spelling(LOOP, long), False)
        back = Spelling(long.pairs * 6 + undone(long).pairs * 6)
        self.assertIs(shows_spelling(Word([1, -1] * 250), back), True)

    def test_drawn_ones_by_products(self):
        draws = Draws(90)
        right = 0
        for _ in range(250):
            pairs, word = drawn_pairs(draws, 3, 4, 2), Word(draws.balanced(draws.below(4), 2))
            if draws.below(2):
                word = product_of(pairs)
            answer = table_of_pairs(pairs) == product(word.letters)
            self.assertIs(shows_spelling(word, Spelling(pairs)), answer)
            right += answer
        self.assertGreater(right, 100)

    def test_other_values(self):
        for value in tuple(no_spellings()) + WRONG:
            self.assertIs(shows_spelling(LOOP, value), False)
            self.assertIs(shows_spelling(EMPTY, value), False)

    def test_errors_for_any_value(self):
        for value in (None, ONE, Odd()):
            self.wrong_among(lambda word: shows_spelling(word, value), lambda word: BadWord("word"), (1, [1], "a", ONE))
        # Never too many letters, nor letters that are not balanced.
        self.assertIs(shows_spelling(Word([1] * 500), ONE), False)
        self.assertIs(shows_spelling(LOOP.times(125), ONE), False)


class ShowsFewest(Case):
    def test_right_ones(self):
        for word, pairs in ((LOOP, [(A, B)]), (LOOP, [(A, Word([2, 1]))]), (EMPTY, []), (Word([1, -1]), ()),
                            (LOOP.turned(3), [(Word([-2]), A)])):
            self.assertIs(shows_fewest(word=word, value=Spelling(pairs)), True)
        self.assertIs(shows_fewest(LOOP.times(3), rounds_spelled(A, B, 3)), True)

    def test_parts_bent(self):
        for word, pairs in ((LOOP, [(A, B), (A, A)]), (Word([1, -1]), [(A, A)]), (LOOP, [(B, A)]), (LOOP, []),
                            (LOOP.times(3), [(A, B)] * 3), (LOOP, [(A, B, A)]), (LOOP, [(A, B), (EMPTY, EMPTY)])):
            self.assertIs(shows_fewest(word, Spelling(pairs)), False)

    def test_drawn_ones(self):
        draws = Draws(91)
        for _ in range(100):
            end = draws.word(4, 3)
            word = end.then(Word(draws.balanced(draws.below(5), 3))).then(end.contrary())
            found = spelled_word(word)
            self.assertIs(shows_fewest(word, found), True)
            self.assertEqual(len(found.pairs), handles_of(word).number)
            self.assertIs(shows_spelling(word, found), True)
            other = Spelling(found.pairs + ((A, A),))
            self.assertIs(shows_spelling(word, other), True)
            self.assertIs(shows_fewest(word, other), False)
            self.assertIs(shows_fewest(word.contrary(), undone(found)), True)
            self.assertIs(shows_fewest(end.contrary().then(word).then(end), moved(found, end.contrary())), True)
            self.assertIs(shows_fewest(word, put_in(found, 1, Word([-1]))), put_in(found, 1, Word([-1])) == found)

    def test_other_values(self):
        for value in tuple(no_spellings()) + WRONG:
            self.assertIs(shows_fewest(LOOP, value), False)
            self.assertIs(shows_fewest(EMPTY, value), False)

    def test_errors_for_any_value(self):
        end = Word([9] * 60)
        for value in (None, ONE, Odd()):
            self.wrong_among(lambda word: shows_fewest(word, value), lambda word: BadWord("word"), (1, [1], "a", ONE))
            for word, error in ((LOOP.times(7), TooMany("letters", 24)), (LOOP.times(5), TooMany("sewings", 720)),
                                (end.then(LOOP).then(end.contrary()), TooMany("letters", 100)),
                                (Word([1, 2, -1]), Unbalanced(2))):
                self.told(error, shows_fewest, word, value)

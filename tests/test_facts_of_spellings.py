"""The facts of [7] on drawn words, by second ways of reckoning."""

import unittest

from handlerims.errors import TooMany
from handlerims.handles import handles_of
from handlerims.renamed import put
from handlerims.sewings import Sewing
from handlerims.spelled import odd_rounds, rounds_spelled, spelled, spelled_word
from handlerims.spellings import Spelling, moved, product_of, put_in, undone
from handlerims.tightened import sewing_of, tightened
from handlerims.words import Word
from tests import sewn
from tests.draws import Draws
from tests.matrices import multiplied, product
from tests.test_spellings import drawn_pairs, table_of_pairs
from tests.test_tightened import filled

A, B = Word([1]), Word([2])


def times_of(table, many):
    made = (1, 0, 0, 1)
    for _ in range(many):
        made = multiplied(made, table)
    return made


class Sewings(unittest.TestCase):
    def test_an_exchange_taken_off_where_two_pairs_of_mates_lie_across(self):
        draws = Draws(100)
        for _ in range(150):
            words = [draws.word(5, 3) for _ in range(5)]
            a, b, c, d, e = [word.letters for word in words]
            back_a, back_b, back_c, back_d, _ = [word.contrary().letters for word in words]
            x, y = (draws.letter(3),), (draws.letter(3),)
            back_x, back_y = (-x[0],), (-y[0],)
            one = a + x + back_c + back_d + back_a
            other = a + d + c + b + y + back_d + back_a
            left = a + d + c + b + e
            ring = a + x + b + y + c + back_x + d + back_y + e
            taken = one + other + Word(one).contrary().letters + Word(other).contrary().letters
            self.assertEqual(product(taken + left), product(ring))

    def test_a_sewing_of_exchanges_has_as_many_handles_as_pairs(self):
        draws = Draws(101)
        for _ in range(150):
            pairs = [(filled(draws, 2, 3), filled(draws, 2, 3)) for _ in range(1 + draws.below(3))]
            if 2 * sum(len(word) for pair in pairs for word in pair) <= 24:
                found = sewing_of(pairs)
                self.assertEqual(found.handles, len(pairs))
                self.assertEqual(sewn.ring_handles(found.mates), len(pairs))
                self.assertEqual(len(spelled(found).pairs), len(pairs))
                self.assertEqual(table_of_pairs(spelled(found).pairs), table_of_pairs(pairs))

    def test_there_and_back(self):
        draws = Draws(102)
        fewer = 0
        for _ in range(150):
            made = draws.rims(1, 2 + draws.below(6), 2)
            found = tightened(Sewing(made, draws.mates(made)))
            if found is None:
                continue
            pairs = spelled(found).pairs
            self.assertEqual(table_of_pairs(pairs), product(found.rims.words[0].letters))
            if all(len(word) > 0 for pair in pairs for word in pair):
                if 2 * sum(len(word) for pair in pairs for word in pair) <= 24:
                    again = tightened(sewing_of(pairs))
                    self.assertEqual(again.rims, found.rims)
                    self.assertLessEqual(again.handles, found.handles)
                    fewer += 1
        self.assertGreater(fewer, 30)


class Fewest(unittest.TestCase):
    def test_no_spelling_has_fewer_pairs_than_the_word_has_handles(self):
        draws = Draws(103)
        seen = set()
        for _ in range(300):
            pairs = drawn_pairs(draws, 3, 2, 2)
            word = product_of(pairs)
            try:
                handles = handles_of(word).number
            except TooMany:
                continue
            self.assertLessEqual(handles, len(pairs))
            self.assertEqual(len(spelled_word(word).pairs), handles)
            seen.add(len(pairs) - handles)
        self.assertTrue({0, 1, 2} <= seen)

    def test_contraries_words_between_and_words_put(self):
        draws = Draws(104)
        for _ in range(100):
            word, end = Word(draws.balanced(draws.below(5), 2)), draws.word(4, 2)
            found = spelled_word(word)
            for other, spelling in ((word.contrary(), undone(found)),
                                    (end.then(word).then(end.contrary()), moved(found, end)),
                                    (put(word, 2, end), put_in(found, 2, end))):
                self.assertEqual(table_of_pairs(spelling.pairs), product(other.letters))
                self.assertEqual(len(spelling.pairs), len(found.pairs))


class Rounds(unittest.TestCase):
    def test_mates_of_an_odd_number_of_rounds(self):
        for times in (1, 3, 5, 7, 9, 11):
            letters, mates = odd_rounds(times)
            self.assertEqual(letters, (1, 2, -1, -2) * times)
            for place, mate in enumerate(mates):
                self.assertEqual((letters[mate], mates[mate]), (-letters[place], place))
            # There are as many corners as rounds.
            self.assertEqual(sewn.cost_of([Word(letters)], mates), 2 * times - times)
            self.assertEqual(sewn.ring_handles(mates), (times + 1) // 2)

    def test_by_no_fewer_pairs_than_rounds_have_handles(self):
        for times in range(5):
            word = Word([1, 2, -1, -2]).times(times)
            self.assertEqual(len(rounds_spelled(A, B, times).pairs), handles_of(word).number)

    def test_any_words_for_both_letters(self):
        draws = Draws(105)
        for _ in range(60):
            one, other, times = draws.word(5, 3), draws.word(5, 3), draws.below(13)
            told = put_in(put_in(rounds_spelled(Word([25]), Word([26]), times), 25, one), 26, other)
            once = table_of_pairs(Spelling([(one, other)]).pairs)
            self.assertEqual(table_of_pairs(told.pairs), times_of(once, times))
            self.assertEqual(table_of_pairs(rounds_spelled(one, other, times).pairs), times_of(once, times))

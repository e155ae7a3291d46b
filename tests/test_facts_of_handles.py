"""The facts of [6] on drawn words, by second ways of reckoning."""

import unittest

from handlerims.errors import TooMany
from handlerims.handles import handles_of, most_for_rounds, rounds_of_exchange
from handlerims.parted import parted
from handlerims.renamed import put, renamed
from handlerims.rims import Rims
from handlerims.rings import common_root, go_past
from handlerims.sewings import all_sewings, census
from handlerims.words import Word
from tests import sewn
from tests.draws import Draws


def drawn(start, many, bands=5, kinds=3):
    draws = Draws(start)
    for _ in range(many):
        yield draws, Word(draws.balanced(1 + draws.below(bands), 1 + draws.below(kinds)))


def few(word):
    """The handles of the word, None if it is too large for that."""
    try:
        return handles_of(word).number
    except TooMany:
        return None


class Handles(unittest.TestCase):
    def test_by_bands_that_lie_across(self):
        for _, word in drawn(60, 200):
            ring = word.shortened_round()
            number = sewn.fewest_ring_handles(ring.letters) if len(ring) > 0 else 0
            self.assertEqual(handles_of(word).number, number)
            self.assertEqual(number == 0, len(ring) == 0)

    def test_the_same_in_other_clothes(self):
        for draws, word in drawn(61, 100):
            number = handles_of(word).number
            end = draws.word(6, 4)
            letters = [kind * draws.one_of([1, -1]) for kind in draws.mixed(range(1, 27))[:3]]
            for other in (word.contrary(), word.turned(draws.below(20)), end.then(word).then(end.contrary()),
                          renamed(word, list(zip([1, 2, 3], letters)))):
                self.assertEqual(handles_of(other).number, number)

    def test_two_words_have_at_most_as_many_as_both(self):
        for draws, word in drawn(62, 150, 4):
            other = Word(draws.balanced(1 + draws.below(3), 3))
            both = few(word.then(other))
            if both is not None:
                self.assertLessEqual(both, handles_of(word).number + handles_of(other).number)

    def test_two_words_without_a_common_kind(self):
        for draws, word in drawn(63, 60, 4, 2):
            other = renamed(Word(draws.balanced(1 + draws.below(4), 2)), [(1, 7), (2, -9)])
            self.assertEqual(handles_of(word.then(other)).number, handles_of(word).number + handles_of(other).number)

    def test_so_many_exchanges_have_at_most_so_many_handles(self):
        known = 0
        for draws, _ in drawn(64, 200):
            many = 1 + draws.below(3)
            word = Word([])
            for _ in range(many):
                word = word.then(Word.exchange(draws.word(3, 3), draws.word(2, 3)))
            number = few(word)
            if number is not None:
                self.assertLessEqual(number, many)
                known += 1
        self.assertGreater(known, 150)

    def test_a_ring_that_is_not_short_round(self):
        for _, word in drawn(65, 120):
            costs = [cost for cost, _ in census(Rims([word]))]
            self.assertEqual((costs[0] + 1) // 2, handles_of(word).number)


class OneHandle(unittest.TestCase):
    def test_one_handle_exactly_if_it_is_parted(self):
        ones = 0
        for _, word in drawn(66, 200):
            ring = word.shortened_round()
            if len(ring) > 0:
                self.assertIs(handles_of(word).number == 1, bool(parted(word)))
                ones += bool(parted(word))
        self.assertGreater(ones, 30)

    def test_an_exchange_has_one_handle_or_none(self):
        seen = set()
        for draws, _ in drawn(67, 300):
            one, other = draws.word(4, 2), draws.word(4, 2)
            number = few(Word.exchange(one, other))
            if number is not None:
                self.assertEqual(number, 0 if go_past(one, other) else 1)
                seen.add(number)
            self.assertIs(go_past(one, other), bool(common_root(one, other)))
            if len(Word.exchange(one, other).shortened_round()) <= 48:
                self.assertIs(bool(parted(Word.exchange(one, other))), True)
        self.assertEqual(seen, {0, 1})


class Rounds(unittest.TestCase):
    def test_rounds_of_an_exchange_of_words(self):
        loop = Word([1, 2, -1, -2])
        for times in range(1, 5):
            self.assertEqual(handles_of(loop.times(times)).number, rounds_of_exchange(times))
            self.assertEqual(handles_of(loop.times(-times)).number, rounds_of_exchange(times))
        for draws, _ in drawn(68, 60):
            word = put(put(loop.times(2), 1, draws.word(2, 2)), 2, draws.word(2, 2))
            number = few(word)
            if number is not None:
                self.assertLessEqual(number, rounds_of_exchange(2))

    def test_at_most_the_bound(self):
        known = 0
        for draws, word in drawn(69, 150, 3):
            handles, times = handles_of(word).number, 1 + draws.below(3)
            number = few(word.times(times))
            if handles > 0 and number is not None:
                self.assertLessEqual(number, most_for_rounds(handles, times))
                known += 1
        self.assertGreater(known, 20)


class Banded(unittest.TestCase):
    def test_with_a_new_letter_between(self):
        checked = 0
        for draws, word in drawn(70, 120, 4):
            cut = draws.below(len(word) + 1)
            one, other = Word(word.letters[:cut]), Word(word.letters[cut:])
            if len(one) == 0 or len(other) == 0:
                continue
            least = min(sewing.cost for sewing in all_sewings(Rims([one, other])))
            ring = one.then(Word([26])).then(other).then(Word([-26]))
            self.assertEqual(handles_of(ring).number, (2 + least) // 2)
            costs = [(cost + 1, many) for cost, many in census(Rims([one, other]))]
            self.assertEqual(census(Rims([ring])), tuple(costs))
            checked += 1
        self.assertGreater(checked, 60)

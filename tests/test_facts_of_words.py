"""The facts of [4] on drawn words, by second ways of reckoning."""

import unittest

from handlerims.balance import balance, is_balanced
from handlerims.renamed import put, renamed
from handlerims.rings import common_root, go_past, least_turned, turn_to
from handlerims.words import Word
from tests.draws import Draws
from tests.matrices import product


def shortened_in_drawn_order(draws, letters):
    """What is left when neighbours that are contraries are taken out, a drawn pair each time."""
    left = list(letters)
    while True:
        pairs = [at for at in range(len(left) - 1) if left[at] == -left[at + 1]]
        if not pairs:
            return left
        at = draws.one_of(pairs)
        del left[at:at + 2]


def drawn_words(start, many, most=14, kinds=2):
    draws = Draws(start)
    for _ in range(many):
        yield draws, draws.word(most, kinds)


class Shortened(unittest.TestCase):
    def test_one_word_whatever_is_taken_out_first(self):
        for draws, word in drawn_words(10, 300, 24):
            self.assertEqual(word.shortened().letters, tuple(shortened_in_drawn_order(draws, word.letters)))

    def test_equal_products_exactly_if_they_shorten_to_the_same(self):
        same = 0
        for draws, word in drawn_words(11, 400, 8):
            other = draws.word(8, 2)
            self.assertEqual(product(word.letters) == product(other.letters), word.shortened() == other.shortened())
            self.assertEqual(product(word.letters), product(word.shortened().letters))
            same += word.shortened() == other.shortened()
        self.assertGreater(same, 5)

    def test_products_of_many_kinds(self):
        for _, word in drawn_words(12, 60, 12, 26):
            self.assertEqual(product(word.letters), product(word.shortened().letters))

    def test_shortened_ahead_or_only_behind(self):
        for draws, word in drawn_words(13, 200):
            other, number, kind = draws.word(10, 2), draws.below(7) - 3, 1 + draws.below(2)
            low, less = word.shortened(), other.shortened()
            self.assertEqual(word.then(other).shortened(), low.then(less).shortened())
            self.assertEqual(word.times(number).shortened(), low.times(number).shortened())
            self.assertEqual(put(word, kind, other).shortened(), put(low, kind, less).shortened())
            self.assertEqual(Word.exchange(word, other).shortened(), Word.exchange(low, less).shortened())

    def test_contraries(self):
        for _, word in drawn_words(14, 200):
            self.assertEqual(word.contrary().shortened(), word.shortened().contrary())
            self.assertEqual(len(word.then(word.contrary()).shortened()), 0)
            self.assertEqual(word.contrary().contrary(), word)

    def test_short_is_what_stays(self):
        for _, word in drawn_words(15, 300, 8):
            self.assertIs(word.is_short, word.shortened() == word)
            self.assertIs(word.is_short_round, word.shortened_round() == word)
            self.assertIs(word.shortened().is_short, True)
            self.assertIs(word.shortened_round().is_short_round, True)

    def test_for_just_one_end(self):
        for draws, word in drawn_words(16, 200, 12):
            low, ring = word.shortened(), word.shortened_round()
            ends = [Word(low.letters[:many]) for many in range(len(low) + 1)]
            fits = [end for end in ends if end.then(ring).then(end.contrary()) == low]
            self.assertEqual(len(fits), 1)
            number = 1 + draws.below(4)
            self.assertEqual(word.times(number).shortened(), fits[0].then(ring.times(number)).then(fits[0].contrary()))

    def test_some_times_nothing_only_if_nothing_already(self):
        for draws, word in drawn_words(17, 300, 6):
            number = 1 + draws.below(5)
            self.assertEqual(len(word.times(number).shortened()) == 0, len(word.shortened()) == 0)

    def test_between_a_word_and_its_contrary(self):
        for draws, word in drawn_words(18, 200):
            end = draws.word(6, 2)
            ring, moved = word.shortened_round(), end.then(word).then(end.contrary()).shortened_round()
            self.assertIsNotNone(turn_to(ring, moved))
            self.assertEqual(least_turned(ring), least_turned(moved))


class Past(unittest.TestCase):
    def test_times_of_one_word_go_past(self):
        for draws, root in drawn_words(19, 200, 6):
            one, other = root.times(draws.below(9) - 4), root.times(draws.below(9) - 4)
            self.assertIs(go_past(one, other), True)
            found = common_root(one, other)
            self.assertEqual(found.root.times(found.here).shortened(), one.shortened())
            self.assertEqual(found.root.times(found.there).shortened(), other.shortened())

    def test_go_past_by_products_and_roots(self):
        past = 0
        for draws, one in drawn_words(20, 600, 5):
            other = draws.word(5, 2)
            here = product(one.letters + other.letters)
            self.assertIs(go_past(one, other), here == product(other.letters + one.letters))
            self.assertIs(bool(common_root(one, other)), go_past(one, other))
            past += go_past(one, other)
        self.assertGreater(past, 100)

    def test_an_exchange_is_nothing_exactly_if_they_go_past(self):
        for draws, one in drawn_words(21, 400, 5):
            other = draws.word(5, 2)
            self.assertIs(len(Word.exchange(one, other).shortened()) == 0, go_past(one, other))

    def test_the_root_is_no_word_two_times_or_more(self):
        for draws, word in drawn_words(22, 200, 4):
            found = common_root(word.times(1 + draws.below(4)), word.times(draws.below(4)))
            if len(found.root) > 0:
                self.assertEqual(common_root(found.root, found.root), type(found)(found.root, 1, 1))
                self.assertIs(found.root.is_short, True)
                back = common_root(word.contrary(), Word([]))
                self.assertEqual(back.root, common_root(word, Word([])).root.contrary())


class Balances(unittest.TestCase):
    def test_balances_add_up_and_stay(self):
        for draws, word in drawn_words(23, 200, 14, 3):
            other = draws.word(10, 3)
            sums = dict(balance(word))
            for kind, more in balance(other):
                sums[kind] = sums.get(kind, 0) + more
            self.assertEqual(dict(balance(word.then(other))), {kind: more for kind, more in sums.items() if more})
            self.assertEqual(balance(word.contrary()), tuple((kind, -more) for kind, more in balance(word)))
            for same in (word.shortened(), word.shortened_round(), word.turned(draws.below(30))):
                self.assertEqual(balance(same), balance(word))
            self.assertIs(is_balanced(Word.exchange(word, other)), True)

    def test_renamed_by_putting_words_of_one_letter(self):
        for draws, word in drawn_words(24, 100, 14, 3):
            letter = draws.letter(26)
            self.assertEqual(renamed(word, [(2, letter)]), put(word, 2, Word([letter])))

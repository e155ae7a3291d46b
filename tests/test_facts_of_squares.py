"""The facts of [9] on drawn words, by second ways of reckoning."""

import itertools
import unittest

from handlerims.crossed import CrossSewing, many_crossed
from handlerims.errors import HandleError, TooMany
from handlerims.handles import handles_of
from handlerims.renamed import put
from handlerims.rings import common_root, go_past
from handlerims.square_spelled import square_spelled_word, squared_ahead, three_squares
from handlerims.squares import as_square, most_squares, odd_kinds, squares_of
from handlerims.words import Word
from tests import sewn
from tests.draws import Draws
from tests.matrices import product
from tests.test_square_spelled import squared


def drawn(start, many, bands=5, kinds=3):
    draws = Draws(start)
    for _ in range(many):
        yield draws, Word(draws.even(1 + draws.below(bands), 1 + draws.below(kinds)))


def few(word):
    """The squares of the word, None if it is too large for that."""
    try:
        return squares_of(word).number
    except TooMany:
        return None


def short_words(most, kinds):
    signs = [sign for sign in range(-kinds, kinds + 1) if sign != 0]
    words = [Word(letters) for many in range(most + 1) for letters in itertools.product(signs, repeat=many)]
    return [word for word in words if word.is_short]


class OddKinds(unittest.TestCase):
    def test_no_kind_is_odd_in_a_product_of_squares(self):
        draws = Draws(170)
        for _ in range(150):
            words = [draws.word(5, 4) for _ in range(draws.below(4))]
            self.assertEqual(odd_kinds(Word(squared(words))), ())
            self.assertEqual(odd_kinds(Word(squared(words)).shortened()), ())

    def test_a_word_with_an_odd_kind_has_no_crossed_sewings(self):
        draws = Draws(171)
        for _ in range(150):
            word = draws.word(8, 3)
            if len(word) > 0:
                self.assertIs(many_crossed(word) == 0, odd_kinds(word) != ())
                self.assertEqual(many_crossed(word), len(sewn.all_crossed_mates(word.letters)))


class Identities(unittest.TestCase):
    def test_a_square_taken_off_at_two_alike_mates(self):
        draws = Draws(172)
        for _ in range(150):
            a, b, c = [draws.word(6, 3) for _ in range(3)]
            x = Word([draws.letter(3)])
            ring = a.then(x).then(b).then(x).then(c)
            square = a.then(x).then(b).then(a.contrary())
            rest = a.then(b.contrary()).then(c)
            self.assertEqual(product(squared([square]) + list(rest.letters)), product(ring.letters))

    def test_a_square_taken_off_leaves_one_band_less_and_as_many_corners(self):
        draws = Draws(173)
        done = 0
        for _ in range(200):
            letters = draws.even(2 + draws.below(6), 3)
            mates = draws.crossed_mates(letters)
            alike = [at for at in range(len(letters)) if letters[at] == letters[mates[at]] and at < mates[at]]
            if not alike:
                continue
            one = draws.one_of(alike)
            end = mates[one]
            left = list(range(one)) + list(range(one + 1, end))[::-1] + list(range(end + 1, len(letters)))
            between = range(one + 1, end)
            rest = [-letters[at] if at in between else letters[at] for at in left]
            kept = [left.index(mates[at]) for at in left]
            self.assertEqual(len(sewn.crossed_corners(rest, kept)), len(sewn.crossed_corners(letters, mates)))
            for at in left:
                was = letters[at] == letters[mates[at]]
                now = rest[left.index(at)] == rest[left.index(mates[at])]
                self.assertEqual(now != was, (at in between) != (mates[at] in between))
            done += 1
        self.assertGreater(done, 120)

    def test_three_squares_of_an_exchange_and_of_one_behind_a_square(self):
        words = short_words(2, 2)
        for x, y in itertools.product(words, words):
            self.assertEqual(product(squared(three_squares(x, y))), product(Word.exchange(x, y).letters))
        for s, x, y in itertools.product(short_words(1, 2), short_words(1, 3), short_words(1, 3)):
            letters = s.letters * 2 + Word.exchange(x, y).letters
            self.assertEqual(product(squared(squared_ahead(s, x, y))), product(letters))


class Fewest(unittest.TestCase):
    def test_no_fewer_words_spell_it(self):
        words = short_words(3, 2)
        once = {product(squared([word])) for word in words}
        twice = {product(squared(pair)) for pair in itertools.product(words, words)}
        checked = {0: 0, 1: 0, 2: 0, 3: 0}
        for letters in itertools.product((1, -1, 2, -2), repeat=4):
            word = Word(letters)
            if odd_kinds(word):
                continue
            number, table = squares_of(word).number, product(letters)
            self.assertIs(number == 0, table == (1, 0, 0, 1))
            self.assertIs(number <= 1, table in once)
            if table in twice:
                self.assertLessEqual(number, 2)
            checked[number] += 1
        self.assertEqual(checked[3], 8)
        self.assertTrue(all(checked.values()))

    def test_one_square_exactly_if_it_is_the_square_of_a_word(self):
        ones = 0
        for _, word in drawn(174, 250, 4, 2):
            number = squares_of(word).number
            self.assertIs(number <= 1, as_square(word) is not None)
            ones += number == 1
        self.assertGreater(ones, 40)

    def test_of_products_of_squares(self):
        draws = Draws(175)
        seen = set()
        for _ in range(200):
            words = [draws.word(3, 2) for _ in range(1 + draws.below(3))]
            word = Word(squared(words))
            number = few(word)
            if number is not None:
                self.assertLessEqual(number, len(words))
                seen.add((len(words), number))
        self.assertTrue({(1, 1), (2, 2), (2, 1), (3, 2), (3, 3), (3, 1)} <= seen)


class Compared(unittest.TestCase):
    def test_words_with_handles_have_at_most_twice_as_many_squares_and_one(self):
        draws = Draws(176)
        most = 0
        for _ in range(150):
            word = Word(draws.balanced(1 + draws.below(6), 3))
            try:
                handles = handles_of(word).number
                self.assertLessEqual(squares_of(word).number, most_squares(handles))
                most += squares_of(word).number == most_squares(handles) > 0
            except HandleError as error:
                self.assertIs(type(error), TooMany)
        self.assertGreater(most, 10)
        for text in ("a b a' b'", "a b a' b' c d c' d'", "a b c a' b' c'"):
            word = Word.read(text)
            self.assertEqual(squares_of(word).number, most_squares(handles_of(word).number))

    def test_turned_contrary_and_between(self):
        for draws, word in drawn(177, 100):
            number, end = squares_of(word).number, draws.word(5, 4)
            for other in (word.turned(draws.below(20)), word.contrary(), end.then(word).then(end.contrary())):
                self.assertEqual(squares_of(other).number, number)

    def test_words_put_for_letters(self):
        done = 0
        for draws, word in drawn(178, 150, 4, 2):
            number = few(put(word, 1 + draws.below(2), draws.word(3, 3)))
            if number is not None:
                self.assertLessEqual(number, squares_of(word).number)
                done += 1
        self.assertGreater(done, 100)

    def test_two_words_one_behind_the_other(self):
        for draws, word in drawn(179, 120, 4):
            other = Word(draws.even(1 + draws.below(3), 3))
            number = few(word.then(other))
            if number is not None:
                self.assertLessEqual(number, squares_of(word).number + squares_of(other).number)

    def test_words_some_times(self):
        draws = Draws(180)
        odd = 0
        for _ in range(200):
            word, times = draws.word(4, 2), draws.below(9) - 4
            number = few(word.times(times)) if times % 2 == 0 or odd_kinds(word) == () else None
            if number is None:
                continue
            if times % 2 == 0:
                self.assertEqual(number, 0 if len(word.times(times).shortened()) == 0 else 1)
            else:
                self.assertLessEqual(number, squares_of(word).number + 1)
                odd += 1
        self.assertGreater(odd, 15)

    def test_two_squares_that_make_a_square_are_of_one_word(self):
        words = short_words(2, 2)
        squares = 0
        for x, y in itertools.product(words, words):
            z = as_square(Word(squared([x, y])))
            if z is not None:
                squares += 1
                for one, other in ((x, y), (x, z), (y, z)):
                    self.assertIs(go_past(one, other), True)
                    self.assertIs(bool(common_root(one, other)), True)
        self.assertGreater(squares, len(words))


class Spelled(unittest.TestCase):
    def test_as_many_words_as_the_rank_tells(self):
        for _, word in drawn(181, 120, 6, 3):
            number = few(word)
            if number is not None:
                found = square_spelled_word(word)
                self.assertEqual(len(found.words), sewn.fewest_squares(word.shortened_round().letters))
                self.assertEqual(product(squared(found.words)), product(word.letters))

    def test_of_one_ring_the_squares_are_as_told_by_corners_and_by_the_rank(self):
        for draws, word in drawn(182, 150, 7, 4):
            mates = draws.crossed_mates(word.letters)
            sewing = CrossSewing(word, mates)
            corners = sewn.crossed_corners(word.letters, mates)
            number = len(word) // 2 - len(corners) + 1
            self.assertEqual(sewing.squares, number if sewing.alike or number == 0 else number + 1)
            self.assertEqual(sewing.squares, sewn.crossed_squares(word.letters, mates))

from fractions import Fraction
from math import ceil, gcd

from handlerims.bags import Bag
from handlerims.errors import BadNumber, BadRims, BadWord, Misfit, TooMany, Unbalanced
from handlerims.price import Price, handles_at_least, price, price_word
from handlerims.rims import Rims
from handlerims.weights import weight_bound
from handlerims.words import Word
from tests.cases import Case, Odd, rims
from tests.draws import Draws
from tests.priced import are_right, bag_price_by_hand, bound_by_hand

NO_RIMS = (1, Word([1, -1]), [Word([1, -1])], "a a'", Odd())
TOLD = (("a b a' b'", (1, 2)), ("a b / b' a'", (0, 1)), ("a b a' b' a b a' b'", (1, 1)), ("a / a / a' a'", (0, 1)),
        ("a' a' a' b' a b a b' a b", (5, 6)), ("a / a'", (0, 1)), ("a b a' b' / a b a' b'", (1, 1)),
        ("a / b / b' a'", (1, 2)), ("a b c a' b' c'", (1, 2)), ("a b c d e a' b' c' d' e'", (3, 2)))


def short_rims(draws, words, bands, kinds):
    """Drawn rims that are shortened round; of one kind no ring alone is, and few long rims are."""
    kinds = max(kinds, 2) if words == 1 or bands > 3 else kinds
    made = draws.rims(words, bands, kinds)
    while not made.is_short:
        made = draws.rims(words, bands, kinds)
    return made


def short_ring(draws, bands, kinds):
    return short_rims(draws, 1, bands, kinds).words[0]


def priced(made):
    """The price, None if there are more walks than a price is told for."""
    try:
        found = price(made)
    except TooMany as told:
        return None if told.what == "walks" else Fraction(0, 0)
    return Fraction(found.top, found.bottom)


class OfRims(Case):
    def both_sides(self, made, found):
        """Check that the walks are a bag with this price, and that the weights allow none below it."""
        self.assertIs(type(found), Price)
        self.assertEqual((found.word, found.parts), ("price", (found.top, found.bottom, found.walks, found.weights)))
        told = Fraction(found.top, found.bottom)
        self.assertEqual((gcd(found.top, found.bottom), found.bottom > 0), (1, True))
        self.assertEqual(bag_price_by_hand(made, found.walks), told)
        self.assertEqual(Bag(made, found.walks).price, (found.top, found.bottom))
        self.assertTrue(are_right(made, found.weights))
        self.assertEqual(bound_by_hand(made, found.weights), told)
        self.assertEqual(weight_bound(made, found.weights), (found.top, found.bottom))
        self.assertTrue(all(type(part) is int for part in (found.top, found.bottom, found.weights.by)))

    def test_told_ones(self):
        for text, pair in TOLD:
            made = rims(text)
            found = price(made)
            self.assertEqual((found.top, found.bottom), pair, text)
            self.both_sides(made, found)
        self.assertEqual(price(rims=rims("a b / b' a'")).top, 0)

    def test_drawn_ones_from_both_sides(self):
        draws = Draws(840)
        seen, many = {}, 0
        for count in range(220):
            made = short_rims(draws, 1 + count % 4, 2 + draws.below(4), 1 + draws.below(4))
            if priced(made) is None:
                many += 1
                continue
            found = price(made)
            self.both_sides(made, found)
            seen[found.top, found.bottom] = True
        for pair in ((0, 1), (1, 2), (1, 1), (5, 6), (2, 3), (3, 4)):
            self.assertIn(pair, seen)
        self.assertGreater(many, 2)

    def test_equal_calls_equal_papers(self):
        for text, _ in TOLD:
            self.assertEqual(price(rims(text)), price(rims(text)))

    def test_all_short_rims_of_six_letters(self):
        # Each sewing of the rims, and of two rounds of each, costs no less than the price.
        draws = Draws(841)
        for count in range(80):
            made = short_rims(draws, 1 + count % 4, 3, 1 + draws.below(2))
            found = priced(made)
            self.assertGreaterEqual(found, 0)
            if len(made.words) == 1:
                self.assertGreaterEqual(found, Fraction(1, 2))

    def test_errors_in_order(self):
        self.wrong_among(price, lambda value: BadRims("rims"), NO_RIMS)
        for text in ("a a'", "a b b' / a'", "a b a' / b'", "a a a a a a a' a' a' a' a' a'"):
            self.told(Misfit("short"), price, rims(text))
        # Not shortened round, and too long.
        self.told(Misfit("short"), price, Rims([Word([1] * 12 + [-1] * 12)]))
        self.told(TooMany("letters", 10), price, rims("a b c d e f a' b' c' d' e' f'"))
        # Too long, and with too many walks.
        self.told(TooMany("letters", 10), price, rims("a a a a a a / a' a' a' a' a' a'"))
        self.told(TooMany("walks", 150), price, rims("a a a a a / a' a' a' a' a'"))
        self.told(TooMany("walks", 150), price, rims("a a a a / a' a' a' a'"))
        self.told(TooMany("walks", 150), price, rims("a a a a / b / b' a' a' a' a'"))

    def test_just_within(self):
        for text, many in (("a a / b b / a / b' a' b' a' a'", 147), ("b a' b' b' a b b a' b' a", 145)):
            made = rims(text)
            self.both_sides(made, price(made))
        three = rims("a a a / a' a' a'")
        self.both_sides(three, price(three))


class OfWords(Case):
    def test_the_ring_shortened_round(self):
        for text, pair in TOLD:
            if "/" not in text:
                word = Word.read(text)
                ends = Word.read("c a")
                for one in (word, ends.then(word).then(ends.contrary())):
                    self.assertEqual(price_word(one), price(Rims([one.shortened_round()])))
                    self.assertEqual((price_word(one).top, price_word(one).bottom), pair)
        self.assertEqual(price_word(word=Word.read("c a b a' b' c'")).bottom, 2)
        # Long ahead, short when it is shortened round.
        long = Word([3] * 240).then(Word.read("a b a' b'")).then(Word([-3] * 240))
        self.assertEqual(price_word(long).top, 1)

    def test_errors_in_order(self):
        self.wrong_among(price_word, lambda value: BadWord("word"), (1, [1, -1], rims("a a'"), "a a'", Odd()))
        for word in (Word([]), Word([1, -1]), Word.read("a b b' a'")):
            self.told(Misfit("empty"), price_word, word)
        for text, kind in (("a", 1), ("c a b a'", 2), ("a b a' b", 2), ("d d", 4)):
            self.told(Unbalanced(kind), price_word, Word.read(text))
        # Unbalanced, and too long, also for rims.
        self.told(Unbalanced(2), price_word, Word([2] * 12))
        self.told(Unbalanced(1), price_word, Word([1] * 500))
        for bands in (6, 12, 13, 250):
            word = Word([1, 2, -1, -2] * (bands // 2) + [3, 1, -3, -1] * (bands % 2))
            self.told(TooMany("letters", 10), price_word, word)
        self.told(TooMany("letters", 10), price_word, Word([1, 2] * 6 + [-1, -2] * 6))

    def test_too_many_walks(self):
        draws = Draws(842)
        more = 0
        for _ in range(300):
            word = short_ring(draws, 5, 2)
            if priced(Rims([word])) is None:
                self.told(TooMany("walks", 150), price_word, word)
                more += 1
        self.assertGreater(more, 5)


class HandlesAtLeast(Case):
    def test_told_ones(self):
        self.assertEqual([handles_at_least(5, 6, 1), handles_at_least(1, 2, 3), handles_at_least(1, 2, 4)], [2, 2, 3])
        self.assertEqual(handles_at_least(rounds=4, bottom=2, top=1), 3)
        self.assertEqual([handles_at_least(1, 1, 1), handles_at_least(1, 10 ** 80, 1), handles_at_least(3, 2, 1),
                          handles_at_least(6, 4, 1), handles_at_least(10 ** 80, 1, 10 ** 80)],
                         [2, 1, 2, 2, 10 ** 160 + 1])

    def test_all_small_ones(self):
        for top in range(1, 12):
            for bottom in range(1, 12):
                for rounds in range(1, 12):
                    least = ceil(Fraction(rounds * top, bottom) + Fraction(1, 2))
                    self.assertEqual(handles_at_least(top, bottom, rounds), least)

    def test_errors_in_order(self):
        for rest in ((None, None), (2, 3)):
            self.wrong_among(lambda value: handles_at_least(value, *rest), lambda value: BadNumber("top"), (0, -1))
        for rounds in (None, 0, 3):
            self.wrong_among(lambda value: handles_at_least(1, value, rounds), lambda value: BadNumber("bottom"),
                             (0, -1, -10 ** 90))
        self.wrong_among(lambda value: handles_at_least(1, 2, value), lambda value: BadNumber("rounds"), (0, -1))

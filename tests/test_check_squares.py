from handlerims.check_squares import shows_square_spelling, shows_squares
from handlerims.crossed import CrossSewing
from handlerims.errors import BadWord, TooMany
from handlerims.handles import Handles
from handlerims.papers import Denial, Paper
from handlerims.rims import Rims
from handlerims.spellings import Spelling
from handlerims.square_spelled import SquareSpelling, square_product, square_spelled_word
from handlerims.squares import Odd, Squares, squares_of
from handlerims.words import Word
from tests import cases, sewn
from tests.cases import NO_LISTS, WRONG, Case
from tests.draws import Draws
from tests.matrices import product
from tests.test_square_spelled import squared

RING, EMPTY = Word.read("a b a b'"), Word([])
MATES = (2, 3, 0, 1)
A, B = Word([1]), Word([2])


class ShowsSquares(Case):
    def test_right_ones(self):
        self.assertIs(shows_squares(RING, Squares(2, RING, MATES)), True)
        self.assertIs(shows_squares(word=RING, value=Squares(2, Word([1, 2, 1, -2]), list(MATES))), True)
        moved = Word([3]).then(RING).then(Word([-3]))
        self.assertIs(shows_squares(moved, Squares(2, RING, MATES)), True)
        for word in (EMPTY, Word([1, -1]), Word([3, 1, -1, -3])):
            self.assertIs(shows_squares(word, Squares(0, EMPTY, ())), True)
            self.assertIs(shows_squares(word, Squares(0, EMPTY, [])), True)

    def test_any_crossed_sewing_with_so_few_and_no_others(self):
        draws = Draws(142)
        for _ in range(60):
            word = Word(draws.even(1 + draws.below(5), 2))
            found = squares_of(word)
            self.assertIs(shows_squares(word, found), True)
            if len(found.ring) == 0:
                continue
            for mates in sewn.all_crossed_mates(found.ring.letters):
                squares = sewn.crossed_squares(found.ring.letters, mates)
                for number in (found.number, squares):
                    self.assertIs(shows_squares(word, Squares(number, found.ring, mates)), squares == found.number)

    def test_parts_bent(self):
        for number in (0, 1, 3, -2, True, 2.0, "2", None, (2,), 10 ** 90):
            self.assertIs(shows_squares(RING, Squares(number, RING, MATES)), False)
        for ring in (RING.turned(1), RING.contrary(), EMPTY, None, RING.letters, str(RING), 1,
                     CrossSewing(RING, MATES)):
            self.assertIs(shows_squares(RING, Squares(2, ring, MATES)), False)
        for mates in ((3, 2, 1, 0), (2, 3, 0), (2, 3, 0, 1, 4), (2, 3, 0, True), (2, 3, False, 1), (2.0, 3, 0, 1), None,
                      (), "2301", (2, 3, 0, -3), (2, 3, 0, 10 ** 90), 5, (MATES,), (0, 1, 2, 3), (2, 1, 0, 3),
                      CrossSewing(RING, MATES)):
            self.assertIs(shows_squares(RING, Squares(2, RING, mates)), False)
        # One crossed sewing has one square, the others two.
        four = Word([1, 1, 1, 1])
        self.assertIs(shows_squares(four, Squares(1, four, (2, 3, 0, 1))), True)
        for mates in ((1, 0, 3, 2), (3, 2, 1, 0), (0, 1, 2, 3)):
            self.assertIs(shows_squares(four, Squares(1, four, mates)), False)
        for value in (Squares(True, four, (2, 3, 0, 1)), Squares(1, four, (2, 3, 0, True))):
            self.assertIs(shows_squares(four, value), False)
        for value in (Squares(False, EMPTY, ()), Squares(0, (), ()), Squares(0, EMPTY, (0,)), Squares(1, EMPTY, ()),
                      Squares(0, EMPTY, None), Squares(0, EMPTY, ""), Squares(0, Word([1, -1]), (1, 0))):
            self.assertIs(shows_squares(Word([1, -1]), value), False)

    def test_any_parts(self):
        for value in WRONG:
            for paper in (Squares(value, RING, MATES), Squares(2, value, MATES), Squares(2, RING, value),
                          Squares(2, RING, (2, 3, 0, value)), Squares(value, value, value)):
                self.assertIs(shows_squares(RING, paper), False)

    def test_other_values(self):
        class Mine(Squares):
            pass
        stranger = type("Squares", (Paper,), {})("squares", 2, RING, MATES)
        for value in WRONG + (stranger, Mine(2, RING, MATES), Paper("squares", 2, RING, MATES), Odd(1),
                              Denial("squares", 2, RING, MATES), Handles(2, RING, MATES), 2, RING, (2, RING, MATES),
                              SquareSpelling([A, B])):
            self.assertIs(shows_squares(RING, value), False)

    def test_no_paper_of_a_word_with_an_odd_kind(self):
        for word in (A, Word([1, 2, 1]), Word([1] * 14 + [2])):
            for value in (None, Odd(1), Odd(2), Squares(1, word, (0,)), Squares(0, EMPTY, ()), Squares(1, A, (0,)),
                          Squares(1, word, (2, 1, 0))):
                self.assertIs(shows_squares(word, value), False)

    def test_errors_for_any_value(self):
        for value in (None, Squares(0, EMPTY, ()), cases.Odd()):
            more = (1, [1, 1], "a a", Rims([Word([1, -1])]))
            self.wrong_among(lambda word: shows_squares(word, value), lambda word: BadWord("word"), more)
            for word in (Word([1] * 17), Word([1] * 500), Word(list(range(1, 18)))):
                self.told(TooMany("letters", 16), shows_squares, word, value)
            self.told(TooMany("sewings", 945), shows_squares, Word([1] * 12), value)


class ShowsSquareSpelling(Case):
    def test_right_ones(self):
        for word, words in ((RING, [Word([1, 2]), Word([-2])]), (RING, (Word([1, 2]), Word([-2]))), (EMPTY, []),
                            (Word([1, -1]), ()), (EMPTY, [A, Word([-1])]), (Word([1, 1]), [A]), (EMPTY, [EMPTY] * 12),
                            (Word([1, 1]), [Word([1, 2, -2]), EMPTY]), (Word([1, 1, 3, -3]), [EMPTY, A]),
                            (Word([1] * 24), [A] * 12), (Word([1] * 24), [Word([1] * 12)]),
                            (Word.read("a b a' b'"), [A, Word([-1, 2]), Word([-2])])):
            self.assertIs(shows_square_spelling(word, SquareSpelling(words)), True)
        self.assertIs(shows_square_spelling(value=SquareSpelling([A]), word=Word([1, 1])), True)

    def test_parts_bent(self):
        for word, words in ((A, [A]), (RING, [Word([-2]), Word([1, 2])]), (RING, [Word([1, 2])]), (RING, []),
                            (RING.turned(1), [Word([1, 2]), Word([-2])]), (RING, [Word([1, 2]), Word([-2]), A]),
                            (EMPTY, [A]), (EMPTY, [EMPTY] * 13), (Word([1] * 26), [A] * 13), (Word([1, 1]), [(1,)]),
                            (Word([1, 1]), [[A]]), (Word([1, 1]), [A, None]), (Word([1, 1]), [A, "-"]),
                            (Word([1, 1]), A), (Word([1, 1]), "a"), (Word([1, 1]), {0: A}), (RING, [(A, B)])):
            self.assertIs(shows_square_spelling(word, SquareSpelling(words)), False)

    def test_what_is_multiplied_out_may_be_longer_than_a_word(self):
        long = A.times(500)
        self.assertIs(shows_square_spelling(RING, SquareSpelling([long] * 12)), False)
        self.assertIs(shows_square_spelling(Word([2, -2] * 250), SquareSpelling([long, long.contrary()] * 6)), True)

    def test_drawn_ones_by_products(self):
        draws = Draws(143)
        right = 0
        for _ in range(250):
            words = [draws.word(3, 2) for _ in range(draws.below(4))]
            word = square_product(words) if draws.below(2) else Word(draws.even(draws.below(3), 2))
            answer = product(squared(words)) == product(word.letters)
            self.assertIs(shows_square_spelling(word, SquareSpelling(words)), answer)
            right += answer
        self.assertGreater(right, 100)

    def test_what_is_found_and_what_is_bent(self):
        draws = Draws(144)
        for _ in range(80):
            word = Word(draws.even(1 + draws.below(5), 3))
            found = square_spelled_word(word)
            self.assertIs(shows_square_spelling(word, found), True)
            self.assertIs(shows_square_spelling(word, SquareSpelling(found.words + (EMPTY,))), True)
            self.assertIs(shows_square_spelling(word, SquareSpelling(found.words + (A,))), False)

    def test_any_parts(self):
        for value in NO_LISTS:
            self.assertIs(shows_square_spelling(EMPTY, SquareSpelling(value)), False)
        for value in WRONG:
            for words in ([value], [value, A], [A, value]):
                self.assertIs(shows_square_spelling(EMPTY, SquareSpelling(words)), False)

    def test_other_values(self):
        class Mine(SquareSpelling):
            pass
        stranger = type("SquareSpelling", (Paper,), {})("squarespelling", ())
        for value in WRONG + (stranger, Mine([]), Paper("squarespelling", ()), Denial("squarespelling", ()),
                              Spelling([]), Squares(0, EMPTY, ()), 1, A, [A, A], Odd(1), CrossSewing(RING, MATES)):
            self.assertIs(shows_square_spelling(EMPTY, value), False)

    def test_errors_for_any_value(self):
        for value in (None, SquareSpelling([]), cases.Odd()):
            more = (1, [1, 1], "a a", Rims([Word([1, -1])]))
            self.wrong_among(lambda word: shows_square_spelling(word, value), lambda word: BadWord("word"), more)
        # Never too many letters, nor a kind that is odd.
        self.assertIs(shows_square_spelling(Word([1] * 499), SquareSpelling([A])), False)
        self.assertIs(shows_square_spelling(Word([1] * 500), SquareSpelling([Word([1] * 250)])), True)

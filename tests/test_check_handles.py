from handlerims.check_handles import shows_handles, shows_parted
from handlerims.errors import BadWord, TooMany, Unbalanced
from handlerims.handles import Handles, handles_of
from handlerims.papers import Denial, Paper
from handlerims.parted import NotParted, Parted, parted
from handlerims.rims import Rims
from handlerims.rings import NoRoot
from handlerims.sewings import Sewing, all_sewings
from handlerims.words import Word
from tests.cases import WRONG, Case
from tests.draws import Draws
from tests.test_parted import partings

LOOP, EMPTY = Word([1, 2, -1, -2]), Word([])
MATES = (2, 3, 0, 1)
A, B = Word([1]), Word([2])


class ShowsHandles(Case):
    def test_right_ones(self):
        self.assertIs(shows_handles(LOOP, Handles(1, LOOP, MATES)), True)
        self.assertIs(shows_handles(word=LOOP, value=Handles(1, Word([1, 2, -1, -2]), list(MATES))), True)
        moved = Word([3]).then(LOOP).then(Word([-3]))
        self.assertIs(shows_handles(moved, Handles(1, LOOP, MATES)), True)
        for word in (EMPTY, Word([1, -1]), Word([3, 1, -1, -3])):
            self.assertIs(shows_handles(word, Handles(0, EMPTY, ())), True)
            self.assertIs(shows_handles(word, Handles(0, EMPTY, [])), True)

    def test_any_sewing_with_so_few(self):
        draws = Draws(52)
        for _ in range(40):
            word = Word(draws.balanced(2 + draws.below(4), 2))
            found = handles_of(word)
            self.assertIs(shows_handles(word, found), True)
            if len(found.ring) == 0:
                continue
            for sewing in all_sewings(Rims([found.ring])):
                fewest = sewing.handles == found.number
                self.assertIs(shows_handles(word, Handles(found.number, found.ring, sewing.mates)), fewest)
                self.assertIs(shows_handles(word, Handles(sewing.handles, found.ring, sewing.mates)), fewest)

    def test_parts_bent(self):
        for number in (0, 2, -1, True, 1.0, "1", None, (1,), 10 ** 90):
            self.assertIs(shows_handles(LOOP, Handles(number, LOOP, MATES)), False)
        for ring in (LOOP.turned(1), LOOP.contrary(), EMPTY, None, LOOP.letters, str(LOOP), Rims([LOOP]), True):
            self.assertIs(shows_handles(LOOP, Handles(1, ring, MATES)), False)
        for mates in ((3, 2, 1, 0), (2, 3, 0), (2, 3, 0, 1, 4), (2, 3, 0, True), (2, 3, False, 1), (2.0, 3, 0, 1), None,
                      (), "2301", (2, 3, 0, -3), (2, 3, 0, 10 ** 90), 5, ((2, 3, 0, 1),), Sewing(Rims([LOOP]), MATES)):
            self.assertIs(shows_handles(LOOP, Handles(1, LOOP, mates)), False)
        self.assertIs(shows_handles(Word([3]).then(LOOP).then(Word([-3])),
                                    Handles(1, Word([3]).then(LOOP).then(Word([-3])), (5, 3, 4, 1, 2, 0))), False)
        for value in (Handles(False, EMPTY, ()), Handles(0, (), ()), Handles(0, EMPTY, (0,)), Handles(1, EMPTY, ()),
                      Handles(0, EMPTY, None), Handles(0, EMPTY, ""), Handles(0, Word([1, -1]), (1, 0))):
            self.assertIs(shows_handles(Word([1, -1]), value), False)

    def test_any_parts(self):
        for value in WRONG:
            for paper in (Handles(value, LOOP, MATES), Handles(1, value, MATES), Handles(1, LOOP, value),
                          Handles(1, LOOP, (2, 3, 0, value)), Handles(value, value, value)):
                self.assertIs(shows_handles(LOOP, paper), False)

    def test_other_values(self):
        class Mine(Handles):
            pass
        stranger = type("Handles", (Paper,), {})("handles", 1, LOOP, MATES)
        for value in WRONG + (stranger, 1, LOOP, (1, LOOP, MATES), Paper("handles", 1, LOOP, MATES), NoRoot(),
                              Mine(1, LOOP, MATES), Parted(1, LOOP, MATES, 0), Denial("handles", 1, LOOP, MATES),
                              NotParted()):
            self.assertIs(shows_handles(LOOP, value), False)

    def test_errors_for_any_value(self):
        for value in (None, Handles(0, EMPTY, ()), WRONG[19]):
            self.wrong_among(lambda word: shows_handles(word, value), lambda word: BadWord("word"), (1, [1], "a a'"))
            self.told(Unbalanced(2), shows_handles, Word([1, 2, -1]), value)
            self.told(TooMany("letters", 24), shows_handles, LOOP.times(7), value)
            self.told(TooMany("sewings", 720), shows_handles, LOOP.times(5), value)


class ShowsParted(Case):
    def test_right_ones(self):
        for value in (Parted(0, A, B, EMPTY), Parted(0, EMPTY, A, B), Parted(0, A, EMPTY, B),
                      Parted(1, B, EMPTY, Word([-1])), Parted(2, Word([-1]), Word([-2]), EMPTY),
                      Parted(turn=3, x=EMPTY, y=Word([-2]), z=A)):
            self.assertIs(shows_parted(LOOP, value), True)
        self.assertIs(shows_parted(word=LOOP.times(2), value=NotParted()), True)
        for word in (EMPTY, Word([1, -1])):
            self.assertIs(shows_parted(word, Parted(0, EMPTY, EMPTY, EMPTY)), True)

    def test_all_partings_and_no_others(self):
        draws = Draws(53)
        for _ in range(80):
            word = Word(draws.balanced(draws.below(5), 3))
            ring = word.shortened_round()
            told = partings(ring)
            self.assertIs(shows_parted(word, parted(word)), True)
            self.assertIs(shows_parted(word, NotParted()), told == [])
            for turn, x, y, z in told:
                self.assertIs(shows_parted(word, Parted(turn, x, y, z)), True)
                for bent in ((turn + len(ring), x, y, z), (turn - max(1, len(ring)), x, y, z)):
                    self.assertIs(shows_parted(word, Parted(*bent)), bent in told)
                for parts in ((turn + 1, x, y, z), (turn, y, x, z), (turn, x, y, z.contrary()), (turn, z, y, x)):
                    self.assertIs(shows_parted(word, Parted(*parts)), parts in told)

    def test_parts_bent(self):
        for value in (Parted(0, A, B, A), Parted(4, A, B, EMPTY), Parted(-4, A, B, EMPTY),
                      Parted(-1, B, EMPTY, Word([-1])), Parted(False, A, B, EMPTY),
                      Parted(True, B, EMPTY, Word([-1])), Parted(0.0, A, B, EMPTY),
                      Parted(0, (1,), B, EMPTY), Parted(0, A, B, ()), Parted(0, A, B, None), Parted(None, A, B, EMPTY),
                      Parted("0", A, B, EMPTY), Parted(0, "a", B, EMPTY), Parted(0, Word([1, 2]), EMPTY, EMPTY),
                      Parted(0, Word([1] * 500), Word([1] * 500), Word([1] * 500)), Parted(10 ** 90, A, B, EMPTY)):
            self.assertIs(shows_parted(LOOP, value), False)
        for value in (Parted(False, EMPTY, EMPTY, EMPTY), Parted(1, EMPTY, EMPTY, EMPTY), Parted(0, A, EMPTY, EMPTY),
                      Parted(0, EMPTY, EMPTY, ()), NotParted()):
            self.assertIs(shows_parted(Word([1, -1]), value), False)
        # The word is to be shortened round ahead of the turn.
        self.assertIs(shows_parted(Word([3]).then(LOOP).then(Word([-3])), Parted(1, A, B, EMPTY)), False)
        self.assertIs(shows_parted(LOOP, NotParted()), False)

    def test_any_parts(self):
        for value in WRONG:
            for paper in (Parted(value, A, B, EMPTY), Parted(0, value, B, EMPTY), Parted(0, A, value, EMPTY),
                          Parted(0, A, B, value), Parted(value, value, value, value)):
                self.assertIs(shows_parted(LOOP, paper), False)

    def test_other_values(self):
        class Mine(Parted):
            pass

        class MyDenial(NotParted):
            pass
        stranger = type("Parted", (Paper,), {})("parted", 0, A, B, EMPTY)
        for value in WRONG + (stranger, 1, LOOP, (0, A, B, EMPTY), Paper("parted", 0, A, B, EMPTY), NoRoot(),
                              Mine(0, A, B, EMPTY), Handles(1, LOOP, MATES)):
            self.assertIs(shows_parted(LOOP, value), False)
        denial = type("NotParted", (Denial,), {})("notparted")
        for value in WRONG + (denial, Denial("notparted"), MyDenial(), NoRoot(), Paper("notparted"),
                              Parted(0, A, B, EMPTY)):
            self.assertIs(shows_parted(LOOP.times(2), value), False)

    def test_errors_for_any_value(self):
        for value in (None, NotParted(), Parted(0, A, B, EMPTY), WRONG[19]):
            self.wrong_among(lambda word: shows_parted(word, value), lambda word: BadWord("word"), (1, [1, -1], "a a'"))
            self.told(Unbalanced(2), shows_parted, Word([1, 2, -1]), value)
            self.told(TooMany("letters", 48), shows_parted, LOOP.times(13), value)
        self.assertIs(shows_parted(LOOP.times(12), NotParted()), True)

from handlerims.check_sewings import shows_way
from handlerims.errors import BadSewing, Misfit
from handlerims.exchanged import Way, way
from handlerims.handles import Handles
from handlerims.papers import Denial, Paper
from handlerims.sewings import Sewing, all_sewings
from tests.cases import WRONG, Agreeing, Case, Odd, rims
from tests.draws import Draws

TWICE = rims("a b a' b' a b a' b'")
NEAR, FAR = Sewing(TWICE, [2, 3, 0, 1, 6, 7, 4, 5]), Sewing(TWICE, [6, 7, 4, 5, 2, 3, 0, 1])


class ShowsWay(Case):
    def test_right_ones(self):
        for pairs in ([(0, 4), (1, 5)], [(1, 5), (0, 4)], [[4, 0], [5, 1]], [(2, 6), (3, 7)], ((0, 4), (7, 3)),
                      [(0, 4), (0, 4), (0, 4), (1, 5)], [(0, 4), (1, 5)] * 101):
            self.assertIs(shows_way(NEAR, FAR, Way(pairs)), True)
        self.assertIs(shows_way(value=Way([]), other=FAR, sewing=FAR), True)
        self.assertIs(shows_way(FAR, FAR, Way([(0, 4), (6, 2)])), True)

    def test_parts_bent(self):
        for pairs in ([(0, 4)], [(1, 5)], [], [(0, 4), (1, 5), (1, 5)], [(0, 4), (1, 1)], [(0, 4), (1, 5), (0, 0)],
                      [(0, 4), (1, 5), (0, 1), (0, 1)], [(0, 4), (1, 3)], [(0, 4), (1, 8)], [(0, 4), (1, -3)],
                      [(0, 4), (True, 5)], [(False, 4), (1, 5)], [(0, 4), (1.0, 5)], [(0, 4), (1, 5, 5)],
                      [(0, 4), (1,)], [(0, 4), 5], [(0, 4), "15"], [(0, 4), None], [(0, 4), ()], [(0, 4), ((1,), 5)],
                      5, None, "",
                      {0: 4, 1: 5}, {(0, 4), (1, 5)}, [(2, 6), (3, -1)], [(2, 6), (-1, 3)], [(0, 4), (8, 5)],
                      [(0, 4), {1, 5}], [(0, 4), (1, 10 ** 90)], [[(0, 4), (1, 5)]]):
            self.assertIs(shows_way(NEAR, FAR, Way(pairs)), False)

    def test_places_counted_from_the_end(self):
        # Each would lead back to where it began if -1 stood for 7.
        for pairs in ([(-1, 3), (7, 3)], [(3, -1), (7, 3)]):
            self.assertIs(shows_way(NEAR, NEAR, Way(pairs)), False)

    def test_any_parts(self):
        for value in WRONG:
            empty = isinstance(value, (list, tuple)) and len(value) == 0
            self.assertIs(shows_way(NEAR, FAR, Way(value)), False)
            self.assertIs(shows_way(NEAR, NEAR, Way(value)), empty)
            for pairs in ([value], [(value, value)], [(0, value)], [(value, 4)], [(0, 4), (1, 5), value]):
                self.assertIs(shows_way(NEAR, FAR, Way(pairs)), False)

    def test_other_values(self):
        class Mine(Way):
            pass
        stranger = type("Way", (Paper,), {})("way", ())
        pairs = [(0, 4), (1, 5)]
        for value in (stranger,) + WRONG + (1, pairs, Paper("way", pairs), Denial("way", pairs), Mine(pairs),
                                          Handles(0, 0, 0),
                              Odd(), Agreeing(), NEAR, TWICE):
            self.assertIs(shows_way(NEAR, FAR, value), False)

    def test_errors_for_any_value(self):
        loop = Sewing(rims("a b a' b'"), [2, 3, 0, 1])
        for value in (None, Way([]), Odd()):
            self.wrong_among(lambda one: shows_way(one, one, value), lambda one: BadSewing("sewing"), (1, TWICE))
            self.wrong_among(lambda one: shows_way(NEAR, one, value), lambda one: BadSewing("other"), (1, TWICE))
            self.told(Misfit("rims"), shows_way, NEAR, loop, value)

    def test_all_ways_of_drawn_sewings(self):
        draws = Draws(39)
        for count in range(60):
            made = draws.rims(1 + count % 4, 2 + draws.below(9), 2)
            one, other, third = [Sewing(made, draws.mates(made)) for _ in range(3)]
            found = way(one, other)
            self.assertIs(shows_way(one, other, found), True)
            self.assertIs(shows_way(one, other, Way(way(one, third).pairs + way(third, other).pairs)), True)
            self.assertIs(shows_way(third, other, found), third == one)
            for at in range(len(found.pairs)):
                self.assertIs(shows_way(one, other, Way(found.pairs[:at] + found.pairs[at + 1:])), False)

    def test_a_way_leads_to_one_sewing_alone(self):
        for one in all_sewings(rims("a a a' / a' b b'")):
            for other in all_sewings(rims("a a a' / a' b b'")):
                for third in all_sewings(rims("a a a' / a' b b'")):
                    self.assertIs(shows_way(one, third, way(one, other)), third == other)

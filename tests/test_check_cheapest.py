from handlerims.check_cheapest import shows_cheapest, shows_in_one
from handlerims.cheapest import Cheapest, InOne, cheapest, in_one
from handlerims.errors import BadRims, TooMany
from handlerims.handles import Handles
from handlerims.papers import Denial, Paper
from handlerims.rims import Rims
from handlerims.sewings import Sewing
from handlerims.words import Word
from tests import sewn
from tests.cases import WRONG, Case, Odd, rims
from tests.draws import Draws
from tests.test_cheapest import handles_by_pieces

TWO, LOOPS = rims("a b / b' a'"), rims("a b a' b' / a b a' b'")
MATES = (3, 2, 1, 0)
BOTH = ((shows_cheapest, cheapest, Cheapest), (shows_in_one, in_one, InOne))


class Shown(Case):
    def test_right_ones(self):
        for mates in (MATES, list(MATES)):
            self.assertIs(shows_cheapest(TWO, Cheapest(0, mates)), True)
            self.assertIs(shows_in_one(TWO, InOne(0, mates)), True)
        self.assertIs(shows_cheapest(value=Cheapest(-1, (1, 0)), rims=rims("a a'")), True)
        self.assertIs(shows_in_one(value=InOne(0, (1, 0)), rims=rims("a a'")), True)
        self.assertIs(shows_in_one(LOOPS, InOne(1, (6, 3, 4, 1, 2, 7, 0, 5))), True)
        self.assertIs(shows_cheapest(LOOPS, Cheapest(2, (2, 3, 0, 1, 6, 7, 4, 5))), True)
        # As cheap, but in two pieces.
        self.assertIs(shows_in_one(LOOPS, InOne(2, (2, 3, 0, 1, 6, 7, 4, 5))), False)

    def test_any_mates_of_so_few_and_no_others(self):
        draws = Draws(130)
        for count in range(80):
            made = draws.rims(1 + count % 4, 2 + draws.below(4), 2)
            cost, handles = cheapest(made).cost, in_one(made).handles
            self.assertIs(shows_cheapest(made, cheapest(made)), True)
            self.assertIs(shows_in_one(made, in_one(made)), True)
            for mates in sewn.all_mates(made.letters):
                one, other = sewn.cost_of(made.words, mates), handles_by_pieces(made.words, mates)
                self.assertIs(shows_cheapest(made, Cheapest(cost, mates)), one == cost)
                self.assertIs(shows_cheapest(made, Cheapest(one, mates)), one == cost)
                self.assertIs(shows_in_one(made, InOne(handles, mates)), other == handles)
                self.assertIs(shows_in_one(made, InOne(other, mates)), other == handles)

    def test_parts_bent(self):
        for shows, _, paper in BOTH:
            for number in (1, -1, 2, False, 0.0, "0", None, (0,), 10 ** 90):
                self.assertIs(shows(TWO, paper(number, MATES)), False)
            for mates in ((2, 3, 0, 1), (3, 2, 1), (3, 2, 1, 0, 0), (3, 2, 1, False), (3, 2, True, 0), (3.0, 2, 1, 0),
                          None, (), "3210", (3, 2, 1, -4), (-1, 2, 1, 0), (3, 2, 1, 10 ** 90), 5, (MATES,),
                          (1, 0, 3, 2), (0, 1, 2, 3), Sewing(TWO, MATES)):
                self.assertIs(shows(TWO, paper(0, mates)), False)
            self.assertIs(shows(rims("a / a'"), paper(0, (1, False))), False)
            self.assertIs(shows(rims("a / a'"), paper(0, (True, 0))), False)
            self.assertIs(shows(rims("a / a'"), paper(0, (1, 0))), True)

    def test_any_parts(self):
        for shows, _, paper in BOTH:
            for value in WRONG:
                for bent in (paper(value, MATES), paper(0, value), paper(0, (3, 2, 1, value)), paper(value, value)):
                    self.assertIs(shows(TWO, bent), False)

    def test_other_values(self):
        for shows, _, paper in BOTH:
            class Mine(paper):
                pass
            name = paper.__name__
            stranger = type(name, (Paper,), {})(name.lower(), 0, MATES)
            other = InOne if paper is Cheapest else Cheapest
            for value in WRONG + (stranger, Mine(0, MATES), other(0, MATES), Paper(name.lower(), 0, MATES),
                                  Denial(name.lower(), 0, MATES), Handles(0, MATES, MATES), (0, MATES), 0, TWO, MATES):
                self.assertIs(shows(TWO, value), False)

    def test_errors_for_any_value(self):
        large = Rims([Word([1] * 7), Word([-1] * 7)])
        for shows, call, paper in BOTH:
            for value in (None, paper(0, MATES), Odd()):
                more = (1, Word([1, -1]), [Word([1, -1])], "a a'")
                self.wrong_among(lambda one: shows(one, value), lambda one: BadRims("rims"), more)
                self.told(TooMany("sewings", 720), shows, large, value)

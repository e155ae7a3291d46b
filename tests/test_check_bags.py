from handlerims.bag_changes import times
from handlerims.bags import Bag, bag_of
from handlerims.built import Built, bag_of_rounds, built
from handlerims.check_bags import shows_built
from handlerims.errors import BadBag
from handlerims.papers import Denial, Paper
from handlerims.sewings import Sewing, all_sewings
from handlerims.words import Word
from tests.cases import NO_LISTS, WRONG, Case, Odd, rims
from tests.draws import Draws
from tests.test_bags import LOOP, ONE, drawn_bags

FLAT = Sewing(LOOP, [2, 3, 0, 1])
BAG = bag_of(FLAT)
ROUNDS = Sewing(rims("a b a' b' a b a' b' a b a' b'"), [2, 7, 0, 5, 10, 3, 8, 1, 6, 11, 4, 9])


class Shown(Case):
    def test_right_ones(self):
        self.assertIs(shows_built(BAG, Built(FLAT, [0])), True)
        self.assertIs(shows_built(BAG, Built(FLAT, (0,))), True)
        self.assertIs(shows_built(times(BAG, 3), Built(ROUNDS, [0])), True)
        self.assertIs(shows_built(value=Built(words=[0], sewing=FLAT), bag=BAG), True)

    def test_any_that_have_the_bag(self):
        # Two rims of one round each, and one of two rounds, have the same bag twice over.
        apart = Sewing(rims("a b a' b' / a b a' b'"), [2, 3, 0, 1, 6, 7, 4, 5])
        twice = times(BAG, 2)
        self.assertIs(shows_built(twice, Built(apart, [0, 0])), True)
        self.assertIs(shows_built(twice, built(twice)), True)
        pair, other = rims("a b / b' a'"), rims("b' a' / a b")
        bag = bag_of(Sewing(pair, [3, 2, 1, 0]))
        turned = Sewing(other, [3, 2, 1, 0])
        self.assertIs(shows_built(bag, Built(Sewing(pair, [3, 2, 1, 0]), [0, 1])), True)
        self.assertIs(shows_built(bag, Built(turned, [1, 0])), True)
        self.assertIs(shows_built(bag, Built(turned, [0, 1])), False)

    def test_exactly_those_with_the_bag(self):
        for text in ("a a a a' a' a'", "a b / b' a'", "a a / a' / a'", "a a b b a' a' b' b'"):
            made = rims(text)
            words = list(range(len(made.words)))
            sewings = all_sewings(made)
            for one in sewings:
                shown = [shows_built(bag_of(one), Built(other, words)) for other in sewings]
                self.assertEqual(shown, [other == one for other in sewings])

    def test_drawn_ones(self):
        done = 0
        for draws, made, walks in drawn_bags(800, 150, 4, 3):
            bag = Bag(made, walks)
            if bag.copies * made.many > 24 or bag.copies * len(made.words) > 4:
                continue
            found = built(bag)
            self.assertIs(shows_built(bag, found), True)
            drawn = Sewing(found.sewing.rims, draws.mates(found.sewing.rims))
            right = bag_of_rounds(drawn, made, found.words) == bag
            self.assertIs(shows_built(bag, Built(drawn, found.words)), right)
            self.assertIs(shows_built(times(bag, 2), found), False)
            done += 1
        self.assertGreater(done, 60)

    def test_parts_bent(self):
        for words in ([], [1], [-1], [0, 0], [False], [0.0], ["0"], [None], [[0]], 0, "0", {0: 0}, range(1), Odd(),
                      [Odd()], None, [10 ** 90]):
            self.assertIs(shows_built(BAG, Built(FLAT, words)), False)
        for sewing in (LOOP, BAG, [2, 3, 0, 1], None, Odd(), Built(FLAT, [0]), Sewing(rims("a a'"), [1, 0]),
                       Sewing(rims("b a b' a'"), [2, 3, 0, 1]), ROUNDS,
                       Sewing(rims("a b a' b' a b / a' b'"), [6, 7, 4, 5, 2, 3, 0, 1])):
            self.assertIs(shows_built(BAG, Built(sewing, [0])), False)
            self.assertIs(shows_built(BAG, Built(sewing, [0, 0])), False)
        # Some rounds of the word, but not from place 0 on.
        self.assertIs(shows_built(BAG, Built(Sewing(rims("b a' b' a"), [2, 3, 0, 1]), [0])), False)
        # One word is had, the other one is not.
        bag = bag_of(Sewing(rims("a b a' b' / a b a' b'"), [2, 3, 0, 1, 6, 7, 4, 5]))
        self.assertIs(shows_built(bag, Built(FLAT, [0])), False)
        self.assertIs(shows_built(bag, Built(bag_sewing(), [0, 0])), False)
        self.assertIs(shows_built(bag, Built(bag_sewing(), [1, 0])), True)

    def test_any_parts(self):
        for value in WRONG:
            for bent in (Built(value, [0]), Built(FLAT, value), Built(FLAT, [value]), Built(value, value)):
                self.assertIs(shows_built(BAG, bent), False)

    def test_other_values(self):
        class Mine(Built):
            pass
        stranger = type("Built", (Paper,), {})("built", FLAT, (0,))
        for value in WRONG + NO_LISTS + (stranger, Mine(FLAT, [0]), Paper("built", FLAT, (0,)), (FLAT, (0,)), FLAT,
                                         BAG, Denial("built", FLAT, (0,)), Word([1]), ONE):
            self.assertIs(shows_built(BAG, value), False)

    def test_wrong_bags_whatever_the_value(self):
        for value in (None, Built(FLAT, [0]), Odd()):
            self.wrong_among(lambda bag: shows_built(bag, value), lambda bag: BadBag("bag"),
                             (1, LOOP, FLAT, ONE, [BAG], Word([1, -1])))


def bag_sewing():
    return Sewing(rims("a b a' b' / a b a' b'"), [2, 3, 0, 1, 6, 7, 4, 5])


class Draw(Case):
    def test_bags_by_their_own_corners(self):
        draws = Draws(801)
        for count in range(60):
            made = draws.rims(1 + count % 4, 2 + draws.below(6), 2)
            sewing = Sewing(made, draws.mates(made))
            words = list(range(len(made.words)))
            self.assertIs(shows_built(bag_of(sewing), Built(sewing, words)), True)
            if len(words) > 1 and made.words[0] != made.words[1]:
                self.assertIs(shows_built(bag_of(sewing), Built(sewing, [1, 0] + words[2:])), False)

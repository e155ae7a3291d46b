from handlerims.errors import BadNumber, BadPaper, BadRims
from handlerims.papers import Denial, Paper
from handlerims.rims import Rims
from handlerims.walks import steps_of
from handlerims.weights import Weights, lightest, weight_bound
from handlerims.words import Word
from tests.cases import NO_LISTS, WRONG, Case, Odd, rims
from tests.draws import Draws
from tests.priced import (are_right, bound_by_hand, lightest_by_hand, lightest_by_lengths, told, walks_by_hand,
                          weigh_walk)

ONE, TWO = rims("a b a' b'"), rims("a b / b' a'")
EVEN = Weights([1, 1, 1, 1], [1, 1, 1, 1], 4)
NO_RIMS = (1, Word([1, -1]), [Word([1, -1])], "a a'", Odd())


def wrong_weights():
    """Values that are no right Weights of ONE."""
    class Mine(Weights):
        pass
    stranger = type("Weights", (Paper,), {})("weights", (1, 1, 1, 1), (1, 1, 1, 1), 4)
    bent = [Weights([1, 1, 1, 1], [1, 1, 1, 1], 5), Weights([1, 1, 0, 1], [1, 1, 1, 1], 4),
            Weights([1, 1, 1, 1], [1, 1, 1, 0], 4), Weights([1, 1, 1, 1], [1, 1, 1, 2], 4),
            Weights([1, 1, 1, 1], [1, 1, 1, 1], 0), Weights([1, 1, 1, 1], [1, 1, 1, 1], -4),
            Weights([1, 1, 1, 1], [1, 1, 1, 1], True), Weights([1, 1, 1, True], [1, 1, 1, 1], 4),
            Weights([1, 1, 1, 1], [1, True, 1, 1], 4), Weights([1, 1, 1], [1, 1, 1, 1], 4),
            Weights([1, 1, 1, 1, 1], [1, 1, 1, 1], 4), Weights([1, 1, 1, 1], [1, 1, 1], 4),
            Weights([1, 1, 1, 1], [1, 1, 1, 1, 1], 4), Weights([1, 1, 1, 1.0], [1, 1, 1, 1], 4),
            Weights([1, 1, 1, 1], [1, 1, 1, 1], 4.0), Weights([[1], 1, 1, 1], [1, 1, 1, 1], 4),
            Weights("1111", [1, 1, 1, 1], 4), Weights([1, 1, 1, 1], "1111", 4), Weights([], [], 1),
            Weights([0, 0, 0, 0], [0, 0, 0, 0], 1), Weights([-1, -1, -1, -1], [-1, -1, -1, -1], 1),
            Mine([1, 1, 1, 1], [1, 1, 1, 1], 4), stranger, Paper("weights", (1, 1, 1, 1), (1, 1, 1, 1), 4),
            Denial("weights", (1, 1, 1, 1), (1, 1, 1, 1), 4), ((1, 1, 1, 1), (1, 1, 1, 1), 4), ONE,
            Weights([1, 1, 1, 1, 1, 1], [1] * 6, 4)]
    for value in WRONG + NO_LISTS:
        bent += [value, Weights(value, [1, 1, 1, 1], 4), Weights([1, 1, 1, 1], value, 4),
                 Weights([1, 1, 1, 1], [1, 1, 1, 1], value), Weights([1, 1, value, 1], [1, 1, 1, 1], 4),
                 Weights([1, 1, 1, 1], [1, value, 1, 1], 4), Weights(value, value, value)]
    return bent


def drawn_weights(draws, made):
    """Right Weights: steps drawn above 0, worths that cover them, by as the lightest walk."""
    steps = [draws.below(7) + 1 for _ in steps_of(made)]
    if draws.below(2):
        # What is added ahead of a place and taken off behind it is nothing round a walk.
        height = [draws.below(9) for _ in range(made.many)]
        steps = [step + height[behind] - height[place] for step, (place, _, behind) in zip(steps, steps_of(made))]
    weigh = {(place, mate): step for step, (place, mate, _) in zip(steps, steps_of(made))}
    worths = [0] * made.many
    for place in draws.mixed(range(made.many)):
        worths[place] = max([weigh[place, mate] + weigh[mate, place] - worths[mate]
                             for one, mate in weigh if one == place])
    return Weights(worths, steps, lightest(made, steps))


class Lightest(Case):
    def test_told_ones(self):
        self.assertEqual(lightest(ONE, [2, 3, 0, -1]), 4)
        self.assertIs(lightest(TWO, [1, 2, -2, 0]), None)
        self.assertEqual(lightest(TWO, (1, 2, -1, 0)), 0)
        self.assertEqual(lightest(numbers=(5, 3, -5, -3), rims=TWO), 0)
        self.assertEqual(lightest(rims("a a'"), [7, -7]), None)
        self.assertEqual(lightest(rims("a a'"), [7, 9]), 7)
        self.assertEqual(lightest(rims("a / a'"), [7, -7]), 0)
        self.assertEqual(lightest(ONE, [10 ** 90, -10 ** 90, 1, 1]), 2)
        self.assertIs(lightest(ONE, [10 ** 90, -10 ** 90 - 3, 1, 1]), None)
        self.assertEqual(lightest(ONE, [10 ** 90, 10 ** 90, 0, 0]), 2 * 10 ** 90)

    def test_numbers_of_any_sign_walk_by_walk(self):
        draws = Draws(820)
        below = 0
        for count in range(300):
            made = draws.rims(1 + count % 4, 2 + draws.below(3), 1 + draws.below(3))
            low = draws.below(6)
            numbers = [draws.below(12) - low for _ in steps_of(made)]
            answer = lightest_by_hand(made, numbers)
            self.assertEqual(lightest(made, numbers), answer)
            self.assertEqual(lightest_by_lengths(made, numbers), answer)
            below += answer is None
        self.assertTrue(50 < below < 250)

    def test_walks_that_add_up_to_0(self):
        draws = Draws(821)
        for count in range(60):
            made = draws.rims(1 + count % 3, 2 + draws.below(3), 2)
            height = [draws.below(1000) for _ in range(made.many)]
            flat = [height[behind] - height[place] for place, _, behind in steps_of(made)]
            self.assertEqual(lightest(made, flat), 0)
            at = draws.below(len(flat))
            only = [other == at for other in range(len(flat))]
            walks = [walk for walk in walks_by_hand(made) if weigh_walk(made, only, walk)]
            less = flat[:at] + [flat[at] - 1] + flat[at + 1:]
            self.assertEqual(lightest(made, less), None if walks else 0)

    def test_many_letters(self):
        draws = Draws(822)
        none = 0
        for count in range(30):
            made = draws.rims(1 + count % 4, 9 + draws.below(4), 1 + draws.below(5))
            low = draws.below(5)
            numbers = [draws.below(40) - low for _ in steps_of(made)]
            answer = lightest_by_lengths(made, numbers)
            self.assertEqual(lightest(made, numbers), answer)
            none += answer is None
        self.assertTrue(3 < none < 27)

    def test_errors(self):
        for numbers in (None, [1, 1, 1, 1], []):
            self.wrong_among(lambda value: lightest(value, numbers), lambda value: BadRims("rims"), NO_RIMS)
        bent = ([1, 1, 1], [1, 1, 1, 1, 1], [], (), [1, 1, 1, True], [1, 1, 1, 1.0], [1, 1, 1, None], 4, "1111",
                {0: 1, 1: 1, 2: 1, 3: 1}, EVEN, ONE, range(4), iter([1, 1, 1, 1]), [[1], 1, 1, 1])
        self.wrong_among(lambda value: lightest(ONE, value), lambda value: BadNumber("numbers"), bent)
        for value in WRONG:
            self.told(BadNumber("numbers"), lightest, ONE, [1, 1, value, 1])


class Bound(Case):
    def test_told_ones(self):
        self.assertEqual(weight_bound(ONE, EVEN), (1, 2))
        self.assertEqual(weight_bound(ONE, Weights([2, 1, 1, 0], [2, 3, 0, -2], 3)), (1, 3))
        self.assertEqual(weight_bound(weights=Weights([4, 0, 0, 0], [4, 0, 0, 0], 4), rims=ONE), (1, 2))
        # Bands less all worths can be below 0, and so can the bound.
        self.assertEqual(weight_bound(ONE, Weights([9, 9, 9, 9], [1, 1, 1, 1], 4)), (-7, 2))
        self.assertEqual(weight_bound(ONE, Weights([2, 2, 2, 2], [1, 1, 1, 1], 4)), (0, 1))
        self.assertEqual(weight_bound(ONE, Weights([-3, 5, 5, -3], [1, 1, 1, 1], 3)), (1, 3))
        self.assertEqual(weight_bound(ONE, Weights([10 ** 70] * 4, [10 ** 70] * 4, 4 * 10 ** 70)), (1, 2))
        self.assertEqual(weight_bound(TWO, Weights([1] * 4, [1] * 4, 2)), (0, 1))
        self.assertEqual(weight_bound(rims("a a'"), Weights([3, 5], [4, 4], 4)), (-1, 2))

    def test_steps_and_worths_below_0(self):
        # Added to the steps out of a place and to its worth, taken off those into it: the walks weigh the same.
        draws = Draws(823)
        for _ in range(100):
            made = draws.rims(1 + draws.below(3), 2 + draws.below(3), 2)
            right = drawn_weights(draws, made)
            self.assertTrue(are_right(made, right))
            bound = bound_by_hand(made, right)
            self.assertEqual(weight_bound(made, right), told(bound))
            many = 10 ** draws.below(70) + 1
            times = Weights([many * worth for worth in right.worths], [many * step for step in right.steps],
                            many * right.by)
            self.assertEqual(weight_bound(made, times), told(bound))

    def test_bent_at_one_part(self):
        draws = Draws(824)
        right = wrong = 0
        for _ in range(60):
            made = draws.rims(1 + draws.below(3), 2 + draws.below(2), 2)
            whole = drawn_weights(draws, made)
            for more in (1, -1, 3, -3):
                at, on = draws.below(made.many), draws.below(len(whole.steps))
                worths, steps = list(whole.worths), list(whole.steps)
                worths[at] += more
                steps[on] += more
                for bent in (Weights(worths, whole.steps, whole.by), Weights(whole.worths, steps, whole.by),
                             Weights(whole.worths, whole.steps, whole.by + more)):
                    if are_right(made, bent):
                        self.assertEqual(weight_bound(made, bent), told(bound_by_hand(made, bent)))
                        right += 1
                    else:
                        self.told(BadPaper("weights"), weight_bound, made, bent)
                        wrong += 1
        self.assertGreater(min(right, wrong), 100)

    def test_many_letters(self):
        draws = Draws(825)
        for _ in range(15):
            made = draws.rims(1 + draws.below(4), 12, 1 + draws.below(4))
            right = drawn_weights(draws, made)
            self.assertEqual(weight_bound(made, right), told(bound_by_hand(made, right)))
            self.told(BadPaper("weights"), weight_bound, made, Weights(right.worths, right.steps, right.by + 1))

    def test_errors(self):
        for value in (None, EVEN):
            self.wrong_among(lambda made: weight_bound(made, value), lambda made: BadRims("rims"), NO_RIMS)
        for value in wrong_weights():
            self.told(BadPaper("weights"), weight_bound, ONE, value)
        self.told(BadPaper("weights"), weight_bound, rims("a a a' a'"), EVEN)


class Large(Case):
    def test_numbers_that_grow_round_a_walk(self):
        large = Rims([Word([1] * 12 + [-1] * 12)])
        self.assertIs(lightest(large, [-(10 ** 6)] * 288), None)
        self.assertEqual(lightest(large, [10 ** 6 - 1] * 288), 10 ** 6 - 1)

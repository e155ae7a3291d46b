from handlerims.errors import BadSewing, Misfit, NoLetter, NoPlace, TooMany, Twice
from handlerims.exchanged import Way, exchanged, way, way_between, with_pair, without_pair
from handlerims.rims import Rims
from handlerims.sewings import Sewing, all_sewings
from handlerims.words import Word
from tests.cases import Case, rims
from tests.draws import Draws

TWICE = rims("a b a' b' a b a' b'")
NEAR, FAR = Sewing(TWICE, [2, 3, 0, 1, 6, 7, 4, 5]), Sewing(TWICE, [6, 7, 4, 5, 2, 3, 0, 1])
NO_SEWINGS = (1, [2, 3, 0, 1], TWICE, Word([1]))
NO_PLACES = (-1, 8, 24, 10 ** 90, [0], (1,))


def drawn_sewings(start, many):
    draws = Draws(start)
    for count in range(many):
        made = draws.rims(1 + count % 4, 2 + draws.below(11), 1 + draws.below(3))
        yield draws, Sewing(made, draws.mates(made))


class Exchanged(Case):
    def test_two_get_the_mates_of_each_other(self):
        self.assertEqual(exchanged(NEAR, 0, 4).mates, (6, 3, 4, 1, 2, 7, 0, 5))
        self.assertEqual(exchanged(NEAR, 0, 4), exchanged(sewing=NEAR, other=0, place=4))
        self.assertEqual(exchanged(NEAR, 2, 6), exchanged(NEAR, 0, 4))
        self.assertEqual(exchanged(NEAR, 3, 7).mates, (2, 7, 0, 5, 6, 3, 4, 1))

    def test_all_others_keep_theirs(self):
        for draws, sewing in drawn_sewings(35, 150):
            letters = sewing.rims.letters
            one = draws.below(len(letters))
            likes = [at for at, letter in enumerate(letters) if letter == letters[one] and at != one]
            if likes:
                other = draws.one_of(likes)
                found = exchanged(sewing, one, other)
                four = {one, other, sewing.mates[one], sewing.mates[other]}
                self.assertEqual(found.mates[one], sewing.mates[other])
                self.assertEqual(found.mates[other], sewing.mates[one])
                for at, mate in enumerate(sewing.mates):
                    if at not in four:
                        self.assertEqual(found.mates[at], mate)
                self.assertEqual(exchanged(found, one, other), sewing)

    def test_the_sewing_stays(self):
        exchanged(NEAR, 0, 4)
        self.told(Misfit("letters"), exchanged, NEAR, 0, 1)
        self.assertEqual(NEAR.mates, (2, 3, 0, 1, 6, 7, 4, 5))

    def test_errors(self):
        self.wrong_among(lambda value: exchanged(value, None, None), lambda value: BadSewing("sewing"), NO_SEWINGS)
        self.wrong_among(lambda value: exchanged(NEAR, value, None), NoPlace, NO_PLACES)
        self.wrong_among(lambda value: exchanged(NEAR, 0, value), NoPlace, NO_PLACES)
        self.told(NoPlace(9), exchanged, NEAR, 9, 9)
        self.told(NoPlace(8), exchanged, NEAR, 8, True)
        self.told(Twice(3), exchanged, NEAR, 3, 3)
        for other in (1, 2, 3, 5, 6, 7):
            self.told(Misfit("letters"), exchanged, NEAR, 0, other)


class Ways(Case):
    def test_ways(self):
        self.assertEqual(way(NEAR, FAR), Way([(0, 4), (1, 5)]))
        self.assertEqual(way(sewing=FAR, other=NEAR).pairs, ((0, 4), (1, 5)))
        self.assertEqual(way(NEAR, NEAR), Way(()))
        three = rims("a a a / a' a' a'")
        one, other = Sewing(three, [3, 4, 5, 0, 1, 2]), Sewing(three, [4, 5, 3, 2, 0, 1])
        self.assertEqual(way(one, other).pairs, ((0, 1), (1, 2)))

    def test_each_place_gets_its_mate_from_the_one_that_has_it(self):
        for draws, sewing in drawn_sewings(36, 150):
            other = Sewing(sewing.rims, draws.mates(sewing.rims))
            now, pairs = sewing, []
            for place in range(sewing.rims.many):
                if sewing.rims.letters[place] > 0 and now.mates[place] != other.mates[place]:
                    holder = now.mates.index(other.mates[place])
                    pairs.append((place, holder))
                    now = exchanged(now, place, holder)
            self.assertEqual(now, other)
            self.assertEqual(way(sewing, other).pairs, tuple(pairs))

    def test_ways_between_any_two_sewings(self):
        for text in ("a a a a' a' a'", "a b b / a' b' b'", "a a / b b' / a' a'"):
            for one in all_sewings(rims(text)):
                for other in all_sewings(rims(text)):
                    between = way_between(one, other)
                    self.assertIs(type(between), tuple)
                    self.assertEqual((between[0], between[-1]), (one, other))
                    pairs = way(one, other).pairs
                    self.assertEqual(len(between), len(pairs) + 1)
                    for at, (place, holder) in enumerate(pairs):
                        self.assertEqual(exchanged(between[at], place, holder), between[at + 1])
        self.assertEqual(way_between(other=NEAR, sewing=NEAR), (NEAR,))

    def test_errors(self):
        loop = Sewing(rims("a b a' b'"), [2, 3, 0, 1])
        for call in (way, way_between):
            self.wrong_among(lambda value: call(value, value), lambda value: BadSewing("sewing"), NO_SEWINGS)
            self.wrong_among(lambda value: call(NEAR, value), lambda value: BadSewing("other"), NO_SEWINGS)
            self.told(BadSewing("sewing"), call, None, NEAR)
            self.told(Misfit("rims"), call, NEAR, loop)
            pair = Sewing(rims("a / a'"), [1, 0]), Sewing(rims("a a'"), [1, 0])
            self.told(Misfit("rims"), call, *pair)


class PutIn(Case):
    def test_put_in(self):
        for text, mates, place, letter, answer, more in (
                ("a a'", [1, 0], 0, 1, "a a' a a'", (1, 0, 3, 2)), ("a a'", [1, 0], 1, -2, "a b' b a'", (3, 2, 1, 0)),
                ("a / a'", [1, 0], 1, 26, "a / z z' a'", (3, 2, 1, 0)),
                ("a / a'", [1, 0], 0, 2, "b b' a / a'", (1, 0, 3, 2)),
                ("a b / b' a'", [3, 2, 1, 0], 2, -1, "a b / a' a b' a'", (5, 4, 3, 2, 1, 0))):
            found = with_pair(Sewing(rims(text), mates), place, letter)
            self.assertEqual((str(found.rims), found.mates), (answer, more))
        found = with_pair(letter=1, place=0, sewing=Sewing(rims("a a'"), [1, 0]))
        self.assertEqual(found.mates, (1, 0, 3, 2))

    def test_drawn_ones_are_taken_out_again(self):
        for draws, sewing in drawn_sewings(37, 150):
            place, letter = draws.below(sewing.rims.many), draws.letter(26)
            if sewing.rims.many <= 22:
                found = with_pair(sewing, place, letter)
                self.assertEqual(found.cost, sewing.cost)
                self.assertEqual(found.rims.letters[place:place + 2], (letter, -letter))
                self.assertEqual(found.mates[place], place + 1)
                self.assertEqual(found.rims.rim_of(place + 1), sewing.rims.rim_of(place))
                self.assertEqual(without_pair(found, place), sewing)

    def test_22_and_more_letters(self):
        for bands, fits in ((11, True), (12, False)):
            made = Rims([Word([1] * bands + [-1] * bands)])
            sewing = Sewing(made, list(range(2 * bands - 1, -1, -1)))
            if fits:
                self.assertEqual(with_pair(sewing, 0, 5).rims.many, 24)
            else:
                self.told(TooMany("letters", 24), with_pair, sewing, 0, 5)
                self.told(NoLetter(0), with_pair, sewing, 0, 0)
                self.told(NoPlace(24), with_pair, sewing, 24, 1)

    def test_errors(self):
        self.wrong_among(lambda value: with_pair(value, None, None), lambda value: BadSewing("sewing"), NO_SEWINGS)
        self.wrong_among(lambda value: with_pair(NEAR, value, None), NoPlace, NO_PLACES)
        self.wrong_among(lambda value: with_pair(NEAR, 0, value), NoLetter, (0, 27, -27, 10 ** 90, [1]))


class TakenOut(Case):
    def test_taken_out(self):
        for text, mates, place, answer, less in (
                ("a a a' a'", [2, 3, 0, 1], 1, "a a'", (1, 0)), ("a a a' a'", [3, 2, 1, 0], 1, "a a'", (1, 0)),
                ("a a a' a'", [2, 3, 0, 1], 3, "a a'", (1, 0)), ("a b b' a'", [3, 2, 1, 0], 3, "b b'", (1, 0)),
                ("a b a' / b'", [2, 3, 0, 1], 2, "b / b'", (1, 0)), ("b / a b' a'", [2, 3, 0, 1], 3, "b / b'", (1, 0)),
                ("a a' a / a'", [3, 2, 1, 0], 0, "a / a'", (1, 0)), ("a a' a / a'", [1, 0, 3, 2], 0, "a / a'", (1, 0)),
                ("a a' b / b' a a'", [5, 4, 3, 2, 1, 0], 0, "b / b' a a'", (1, 0, 3, 2))):
            found = without_pair(Sewing(rims(text), mates), place)
            self.assertEqual((str(found.rims), found.mates), (answer, less))
        found = without_pair(place=3, sewing=Sewing(rims("a b b' a'"), [3, 2, 1, 0]))
        self.assertEqual(found.mates, (1, 0))

    def test_all_others_keep_their_order_and_their_mates(self):
        taken = 0
        for _, sewing in drawn_sewings(38, 150):
            made = sewing.rims
            for place in range(made.many):
                behind = made.next(place)
                if made.letters[place] != -made.letters[behind] or len(made.words[made.rim_of(place)]) == 2:
                    continue
                found = without_pair(sewing, place)
                left = [at for at in range(made.many) if at not in (place, behind)]
                self.assertEqual(found.rims.letters, tuple(made.letters[at] for at in left))
                self.assertEqual([found.rims.rim_of(at) for at in range(len(left))], [made.rim_of(at) for at in left])
                for at, old in enumerate(left):
                    mate = {place: sewing.mates[behind], behind: sewing.mates[place]}.get(sewing.mates[old])
                    self.assertEqual(left[found.mates[at]], sewing.mates[old] if mate is None else mate)
                taken += 1
        self.assertGreater(taken, 150)

    def test_errors(self):
        self.wrong_among(lambda value: without_pair(value, None), lambda value: BadSewing("sewing"), NO_SEWINGS)
        self.wrong_among(lambda value: without_pair(NEAR, value), NoPlace, NO_PLACES)
        for place in range(8):
            self.told(Misfit("letters"), without_pair, NEAR, place)
        # A word of one letter is its own next; one of two letters would be empty.
        self.told(Misfit("letters"), without_pair, Sewing(rims("a / a'"), [1, 0]), 0)
        for place in (0, 1):
            self.told(Misfit("empty"), without_pair, Sewing(rims("a a'"), [1, 0]), place)
        self.told(Misfit("empty"), without_pair, Sewing(rims("a a' / b b'"), [1, 0, 3, 2]), 2)
        self.told(Misfit("letters"), without_pair, Sewing(rims("a a / a' a'"), [2, 3, 0, 1]), 0)

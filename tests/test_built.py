from handlerims.bag_changes import added, times
from handlerims.bags import Bag, bag_of
from handlerims.built import Built, bag_of_rounds, built
from handlerims.errors import BadBag, BadNumber, BadRims, BadSewing, Misfit, TooMany
from handlerims.rims import Rims
from handlerims.sewings import Sewing, all_sewings
from handlerims.words import Word
from tests.cases import WRONG, Case, rims
from tests.draws import Draws
from tests.test_bags import LOOP, ONE, TWOS, drawn_bags

BAG = Bag(LOOP, ONE)
ROUNDS = Sewing(Rims([Word.read("a b a' b'").times(3)]), [2, 7, 0, 5, 10, 3, 8, 1, 6, 11, 4, 9])
NO_SEWINGS = (1, LOOP, ONE, BAG, [2, 3, 0, 1])


def folded(sewing, made, words):
    """The walks that the corners are, each place told by how far it is from the begin of its rim."""
    starts, at = [], 0
    for word in made.words:
        starts.append(at)
        at += len(word)
    places = []
    for rim, number in zip(sewing.rims.words, words):
        places += [starts[number] + at % len(made.words[number]) for at in range(len(rim))]
    return [([places[place] for place in corner], 1) for corner in sewing.corners]


class OfRounds(Case):
    def test_bags_of_rounds(self):
        self.assertEqual(bag_of_rounds(ROUNDS, LOOP, [0]), times(BAG, 3))
        self.assertEqual(bag_of_rounds(words=(0,), rims=LOOP, sewing=Sewing(LOOP, [2, 3, 0, 1])), BAG)
        two = rims("a b / b' a'")
        for text, mates, words, walks in (
                ("a b / b' a'", [3, 2, 1, 0], [0, 1], [([0, 2], 1), ([1, 3], 1)]),
                ("b' a' / a b", [3, 2, 1, 0], [1, 0], [([0, 2], 1), ([1, 3], 1)]),
                ("a b a b / b' a' b' a'", [7, 6, 5, 4, 3, 2, 1, 0], [0, 1], [([0, 2], 2), ([1, 3], 2)]),
                ("a b a b / b' a' b' a'", [7, 4, 5, 6, 1, 2, 3, 0], [0, 1], [([0, 2, 0, 2], 1), ([1, 3, 1, 3], 1)]),
                ("a b a b / b' a' / b' a'", [5, 4, 7, 6, 1, 0, 3, 2], [0, 1, 1], [([0, 2, 0, 2], 1), ([1, 3], 2)]),
                ("b' a' / a b / b' a' / a b", [3, 2, 1, 0, 7, 6, 5, 4], [1, 0, 1, 0], [([0, 2], 2), ([1, 3], 2)])):
            sewing = Sewing(rims(text), mates)
            found = bag_of_rounds(sewing, two, words)
            self.assertEqual(found, Bag(two, walks))
            self.assertEqual(found, Bag(two, folded(sewing, two, words)))
            self.assertEqual((found.cost, found.many), (sewing.cost, len(sewing.corners)))

    def test_words_that_are_alike(self):
        # Which of two equal words a rim is made of is told by the numbers alone.
        four, both = rims("a / a / a' / a'"), Sewing(rims("a / a / a' / a'"), [2, 3, 0, 1])
        self.assertEqual(bag_of_rounds(both, four, [0, 1, 2, 3]), bag_of(both))
        self.assertEqual(bag_of_rounds(both, four, [1, 0, 2, 3]).walks, (((0, 3), 1), ((1, 2), 1)))
        self.assertEqual(bag_of_rounds(both, rims("a / a'"), [0, 0, 1, 1]).walks, (((0, 1), 2),))

    def test_all_sewings_of_rounds(self):
        for text, other, words in (("a a / a a / a' a' a' a'", "a a / a' a'", [0, 0, 1]),
                                   ("a b a' b' a b a' b'", "a b a' b'", [0]), ("a a' a a'", "a a'", [0]),
                                   ("b' a' / a b / b' a' a b", "a b / b' a' / b' a' a b", [1, 0, 2])):
            made = rims(other)
            for sewing in all_sewings(rims(text)):
                found = bag_of_rounds(sewing, made, words)
                self.assertEqual(found, Bag(made, folded(sewing, made, words)))
                self.assertEqual((found.cost, found.copies), (sewing.cost, sewing.rims.many // made.many))

    def test_no_rounds(self):
        one = Sewing(LOOP, [2, 3, 0, 1])
        two, four = rims("a b / b' a'"), Sewing(rims("a b a b / b' a' b' a'"), [7, 6, 5, 4, 3, 2, 1, 0])
        for sewing, made, words in (
                (one, rims("b a' b' a"), [0]), (one, rims("a b a' b' a b a' b'"), [0]), (four, two, [1, 0]),
                (four, two, [0, 0]), (four, two, [1, 1]), (Sewing(two, [3, 2, 1, 0]), LOOP, [0, 0]),
                (Sewing(rims("a / a'"), [1, 0]), rims("a / a' / a / a'"), [0, 1]),
                (Sewing(rims("a a / a' / a'"), [2, 3, 0, 1]), rims("a a' / a / a'"), [1, 2, 2]),
                (Sewing(rims("a a / a' / a'"), [2, 3, 0, 1]), rims("a a / a' a'"), [0, 1, 1]),
                (Sewing(rims("a a a a / a' a' / a' a'"), [4, 5, 6, 7, 0, 1, 2, 3]), rims("a / a / a' a'"), [0, 2, 2]),
                (Sewing(rims("a a' / a a'"), [1, 0, 3, 2]), rims("a a' / a a'"), [0, 0]),
                (Sewing(rims("a a' a / a'"), [1, 0, 3, 2]), rims("a / a'"), [0, 1])):
            self.told(Misfit("rounds"), bag_of_rounds, sewing, made, words)
        three = Sewing(rims("a a / a' / a'"), [2, 3, 0, 1])
        self.assertEqual(bag_of_rounds(three, rims("a / a'"), [0, 1, 1]).copies, 2)

    def test_errors_in_order(self):
        one = Sewing(LOOP, [2, 3, 0, 1])
        self.wrong_among(lambda value: bag_of_rounds(value, None, None), lambda value: BadSewing("sewing"), NO_SEWINGS)
        more = (1, Word([1, -1]), ONE, BAG, one)
        self.wrong_among(lambda value: bag_of_rounds(one, value, None), lambda value: BadRims("rims"), more)
        numbers = (0, [0, 0], (0, 0), [1], [-1], [4], [True], [False], [0.0], [None], ["0"], [[0]], {0: 0}, {0},
                   [10 ** 90], LOOP, Word([1]))
        self.wrong_among(lambda value: bag_of_rounds(one, LOOP, value), lambda value: BadNumber("words"), numbers)
        self.wrong_among(lambda value: bag_of_rounds(one, TWOS, value), lambda value: BadNumber("words"), numbers)
        for value in WRONG:
            self.told(BadNumber("words"), bag_of_rounds, one, LOOP, [value])
            self.told(BadNumber("words"), bag_of_rounds, Sewing(rims("a / a'"), [1, 0]), rims("a / a'"), [0, value])


class OfBags(Case):
    def check(self, bag):
        """Check that the Built of the bag is a Sewing whose bag it is, told by how its corners fold."""
        found = built(bag)
        self.assertIs(type(found), Built)
        self.assertIs(type(found.sewing), Sewing)
        self.assertEqual(bag_of_rounds(found.sewing, bag.rims, found.words), bag)
        self.assertEqual(Bag(bag.rims, folded(found.sewing, bag.rims, found.words)), bag)
        self.assertEqual(found.sewing.cost, bag.cost)
        totals = [0] * len(bag.rims.words)
        for rim, number in zip(found.sewing.rims.words, found.words):
            word = bag.rims.words[number]
            self.assertEqual(rim, word.times(len(rim) // len(word)))
            totals[number] += len(rim) // len(word)
        self.assertEqual(totals, [bag.copies] * len(totals))
        self.assertEqual(built(Bag(bag.rims, bag.walks)), found)
        return found

    def test_some_bags(self):
        for many in range(1, 5):
            self.check(times(BAG, many))
            self.check(Bag(LOOP, [([0, 3, 2, 1] * many, 1)]))
        self.check(bag_of_rounds(ROUNDS, LOOP, [0]))
        self.check(Bag(TWOS, [((0, 3, 2, 1, 0), 1), ((1, 3), 1), ((2,), 1)]))
        self.check(Bag(rims("a a'"), [([0, 0], 1), ([1], 2)]))
        self.assertEqual(built(bag=BAG), Built(Sewing(LOOP, [2, 3, 0, 1]), [0]))

    def test_bags_of_sewings(self):
        draws = Draws(165)
        for count in range(120):
            made = draws.rims(1 + count % 4, 2 + draws.below(11), 1 + draws.below(4))
            sewing = Sewing(made, draws.mates(made))
            found = self.check(bag_of(sewing))
            self.assertEqual((found.sewing, found.words), (sewing, tuple(range(len(made.words)))))

    def test_drawn_bags(self):
        seen = set()
        for draws, made, walks in drawn_bags(166, 300, 4, 3):
            bag = Bag(made, walks)
            if bag.copies * made.many > 24 or bag.copies * len(made.words) > 4:
                self.assertIn(type(self.refused(bag)), (TooMany,))
                continue
            found = self.check(bag)
            seen.add((len(made.words), bag.copies, len(found.sewing.rims.words)))
        self.assertTrue({(1, 1, 1), (1, 2, 1), (1, 2, 2), (1, 3, 1), (1, 3, 2), (1, 4, 1), (2, 2, 2), (2, 2, 3),
                         (2, 2, 4), (3, 1, 3)} <= seen)

    def refused(self, bag):
        with self.assertRaises(TooMany) as caught:
            built(bag)
        return caught.exception

    def test_bags_added(self):
        for draws, made, walks in drawn_bags(167, 150, 2, 2):
            bag = added(Bag(made, walks), Bag(made, walks))
            if bag.copies * made.many <= 24 and bag.copies * len(made.words) <= 4:
                self.check(bag)

    def test_24_letters_and_4_words_and_more(self):
        self.check(times(BAG, 4))
        self.told(TooMany("words", 4), built, times(BAG, 5))
        self.told(TooMany("words", 4), built, times(BAG, 6))
        for number in (7, 10 ** 90):
            self.told(TooMany("letters", 24), built, times(BAG, number))
        six = Bag(rims("a b c a' b' c'"), bag_of(Sewing(rims("a b c a' b' c'"), [3, 4, 5, 0, 1, 2])).walks)
        self.check(times(six, 4))
        self.told(TooMany("letters", 24), built, times(six, 5))
        three = bag_of(Sewing(rims("a / b / b' a'"), [3, 2, 1, 0]))
        self.check(three)
        self.told(TooMany("words", 4), built, times(three, 2))
        four = bag_of(Sewing(rims("a / a' / b / b'"), [1, 0, 3, 2]))
        self.check(four)
        self.told(TooMany("words", 4), built, times(four, 2))
        # Fewer rims would do, but the copies of the words are counted.
        self.told(TooMany("words", 4), built, Bag(rims("a / a'"), [([0, 1] * 3, 1)]))
        two = Bag(rims("a / a'"), [([0, 1], 2)])
        self.check(two)

    def test_wrong_bags(self):
        more = (1, LOOP, ONE, Sewing(LOOP, [2, 3, 0, 1]), Built(Sewing(LOOP, [2, 3, 0, 1]), [0]))
        self.wrong_among(built, lambda value: BadBag("bag"), more)

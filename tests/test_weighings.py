from itertools import product

from handlerims.bags import Bag, bag_of
from handlerims.errors import BadBag, BadNumber, BadRims, BadText, BadWeighing, BadWord, NoLetter, Twice
from handlerims.rims import Rims
from handlerims.sewings import Sewing
from handlerims.weighings import Weighing, slope, value_of, value_round, walk_values
from handlerims.words import Word
from tests.cases import NO_LISTS, WRONG, Case, Odd, rims
from tests.draws import Draws
from tests.test_bags import drawn_bags
from tests.weighed import LETTERS, along, all_letters, drawn_rows, table_of, value_by_hand, walk_by_hand

RING = rims("a b a' b'")
LIGHT = Weighing([(1, 2, 3), [2, 1, -1], (2, 2, 0)])
NO_LETTERS = (0, 27, -27, 10 ** 90, -10 ** 90, "a", "a'", (1,), 1.0)
NO_WEIGHINGS = (1, Word([1]), RING, (), [(1, 2, 3)], "a' b' 1", Odd())
# All stretches that are lesser than their contraries, in their order.
LESSER = sorted(pair for pair in product(LETTERS, LETTERS) if pair < (-pair[1], -pair[0]))


class Made(Case):
    def test_attributes(self):
        self.assertEqual(LIGHT.rows, ((-2, -1, -3), (-1, -2, 1)))
        self.assertEqual(LIGHT.kinds, (1, 2))
        empty = Weighing(rows=[])
        self.assertEqual((empty.rows, empty.kinds), ((), ()))
        self.assertEqual(Weighing(((26, -25, 5), (-26, 25, 7))).rows, ((-26, 25, 7), (25, -26, -5)))
        for value in (LIGHT.rows, LIGHT.rows[0], LIGHT.kinds, empty.rows, empty.kinds):
            self.assertIs(type(value), tuple)

    def test_each_row_by_the_lesser_stretch_ascending(self):
        self.assertEqual(Weighing([(1, 2, 3)]).rows, ((-2, -1, -3),))
        self.assertEqual(Weighing([(1, -2, 3)]).rows, ((1, -2, 3),))
        self.assertEqual(Weighing([(2, -1, 3)]).rows, ((1, -2, -3),))
        self.assertEqual(Weighing([(1, 1, 3)]).rows, ((-1, -1, -3),))
        self.assertEqual(Weighing([(26, -25, 5)]).rows, ((25, -26, -5),))
        self.assertEqual(Weighing([(25, -26, 5)]).rows, ((25, -26, 5),))
        self.assertEqual(Weighing([(-1, 2, 8), (1, -2, 7), (-1, -1, 6), (2, 2, 5)]).rows,
                         ((-2, -2, -5), (-2, 1, -8), (-1, -1, 6), (1, -2, 7)))

    def test_rows_that_count_0_are_none(self):
        made = Weighing([(3, 4, 0), (1, 2, 1)])
        self.assertEqual((made.rows, made.kinds), (((-2, -1, -1),), (1, 2)))
        self.assertEqual(Weighing([(1, 1, 0)]), Weighing([]))

    def test_all_stretches_at_once(self):
        rows = [(first, second, at + 1) for at, (first, second) in enumerate(LESSER)]
        made = Weighing(rows[::-1])
        self.assertEqual(len(LESSER), 1326)
        self.assertEqual(made.rows, tuple(rows))
        self.assertEqual(made.kinds, tuple(range(1, 27)))
        back = Weighing([(-second, -first, -number) for first, second, number in rows])
        self.assertTrue(made == back)

    def test_drawn_ones_from_a_table(self):
        draws = Draws(880)
        for count in range(200):
            kinds = draws.mixed(range(1, 27))[:1 + count % 4]
            rows = drawn_rows(draws, kinds, draws.below(12), 3)
            made = Weighing([list(row) for row in rows])
            table = table_of(rows)
            wanted = sorted((first, second, number) for (first, second), number in table.items()
                            if number != 0 and (first, second) < (-second, -first))
            self.assertEqual(made.rows, tuple(wanted))
            self.assertEqual(made.kinds, tuple(sorted({abs(one) for row in wanted for one in row[:2]})))
            for first, second in product(all_letters(kinds), repeat=2):
                self.assertEqual(made.at(first, second), table.get((first, second), 0))

    def test_what_is_passed_is_copied(self):
        row = [1, 2, 3]
        rows = [row]
        made = Weighing(rows)
        row[2] = 9
        rows.append((1, 1, 1))
        self.assertEqual(made.rows, ((-2, -1, -3),))

    def test_wrong_rows(self):
        good = (1, 2, 3)
        bent = [[()], [(1, 2)], [(1, 2, 3, 4)], [(0, 2, 3)], [(1, 0, 3)], [(1, 27, 3)], [(-27, 1, 3)], [(1, -1, 3)],
                [(-2, 2, 0)], [(1, 2, True)], [(1, 2, 3.0)], [(1, 2, "3")], [(1, 2, None)], [(True, 2, 3)],
                [(1, True, 3)], [("a", "b", 3)], ["123"], good, (good, 1), [good, None], {good: 1}, {0: good}, {good},
                [{1: 2}], 5, "a b 3", LIGHT, [LIGHT], [good, (1, -1, 0)], [(1, 2, [3])], iter([good])]
        # A wrong row behind one that is told twice is told first.
        bent += [[good, good, (1, -1, 3)], [good, (1, 2, 4), None]]
        for value in WRONG:
            bent += [[value], [(value, 2, 3)], [(1, value, 3)], [(1, 2, value)], [good, value]]
            if not isinstance(value, (list, tuple)):
                bent.append(value)
        for value in bent:
            self.told(BadWeighing("rows"), Weighing, value)

    def test_stretches_told_twice(self):
        for rows, stretch in (([(1, 2, 3), (1, 2, 3)], (1, 2)), ([(1, 2, 3), [-2, -1, -3]], (-2, -1)),
                              ([(1, 2, 0), (1, 2, 0)], (1, 2)),
                              ([(1, 1, 2), (2, 2, 2), (-2, -2, 0), (1, 1, 3)], (-2, -2)),
                              ([(1, -2, 3), (2, 1, 1), (2, -1, 3), (2, 1, 1)], (2, -1))):
            self.told(Twice(stretch), Weighing, rows)

    def test_equal(self):
        self.assertTrue(LIGHT == Weighing([(-2, -1, -3), (-1, -2, 1)]))
        for other in (Weighing([(1, 2, 3)]), Weighing([(1, 2, 3), (2, 1, -2)]), Weighing([]), None, LIGHT.rows, RING,
                      str(LIGHT)):
            self.assertIs(LIGHT == other, False)
            self.assertIs(LIGHT != other, True)


class Asked(Case):
    def test_at(self):
        self.assertEqual([LIGHT.at(1, 2), LIGHT.at(-2, -1), LIGHT.at(2, 1), LIGHT.at(-1, -2), LIGHT.at(1, 1)],
                         [3, -3, -1, 1, 0])
        self.assertEqual([LIGHT.at(1, -1), LIGHT.at(-2, 2), LIGHT.at(26, -26), LIGHT.at(second=2, first=1)],
                         [0, 0, 0, 3])
        for first, second in product(LETTERS, LETTERS):
            self.assertEqual(LIGHT.at(first, second), -LIGHT.at(-second, -first))
        for value in (LIGHT.at(3, -3), Weighing([]).at(1, 1)):
            self.assertIs(type(value), int)

    def test_at_wrong_letters(self):
        for other in (1, None, 0):
            self.wrong_among(lambda value: LIGHT.at(value, other), NoLetter, NO_LETTERS)
        self.wrong_among(lambda value: LIGHT.at(1, value), NoLetter, NO_LETTERS)

    def test_times(self):
        self.assertEqual(LIGHT.times(2).rows, ((-2, -1, -6), (-1, -2, 2)))
        self.assertEqual(LIGHT.times(number=-1).rows, ((-2, -1, 3), (-1, -2, -1)))
        self.assertEqual(LIGHT.times(0), Weighing([]))
        self.assertEqual(LIGHT.times(10 ** 90).at(1, 2), 3 * 10 ** 90)
        self.wrong_among(LIGHT.times, lambda value: BadNumber("number"), (Odd(), LIGHT))

    def test_added(self):
        self.assertEqual(LIGHT.added(LIGHT), LIGHT.times(2))
        self.assertEqual(LIGHT.added(LIGHT.times(-1)), Weighing([]))
        self.assertEqual(LIGHT.added(other=Weighing([(3, 3, 1), (2, 1, 1)])).rows, ((-3, -3, -1), (-2, -1, -3)))
        self.wrong_among(LIGHT.added, lambda value: BadWeighing("other"), NO_WEIGHINGS)
        draws = Draws(881)
        for count in range(100):
            kinds = range(1, 2 + count % 4)
            one, other = drawn_rows(draws, kinds, 8, 2), drawn_rows(draws, kinds, 8, 2)
            both = Weighing(one).added(Weighing(other))
            here, there = table_of(one), table_of(other)
            for pair in product(all_letters(kinds), repeat=2):
                self.assertEqual(both.at(*pair), here.get(pair, 0) + there.get(pair, 0))
            self.assertTrue(all(number != 0 for _, _, number in both.rows))
        self.assertEqual(Weighing([]).added(Weighing([])).rows, ())

    def test_nothing_changes(self):
        LIGHT.times(3)
        LIGHT.added(LIGHT)
        self.assertEqual(LIGHT.rows, ((-2, -1, -3), (-1, -2, 1)))


def viable(items):
    """How many items stand at the begin of a text of a weighing, by all lesser stretches gone through."""
    if items[:1] == ["-"]:
        return 1
    names = {letter: chr(96 + abs(letter)) + ("'" if letter < 0 else "") for letter in LETTERS}
    last = (-99, -99)
    for at in range(0, len(items) + 1, 4):
        row = items[at:at + 4] + [None] * 4
        left = [pair for pair in LESSER if pair > last]
        begun = [pair for pair in left if names[pair[0]] == row[0]]
        if not begun:
            return at
        ended = [pair for pair in begun if names[pair[1]] == row[1]]
        if not ended:
            return at + 1
        digits = (row[2] or "").removeprefix("-")
        if not digits.isdecimal() or not digits.isascii() or len(digits) > 60 or digits[0] == "0":
            return at + 2
        last = ended[0]
        if row[3] != "/" or last == LESSER[-1]:
            return at + 3
    raise AssertionError("no end")


def refused_at(text):
    """The item at which a text is told to be no weighing, None if it is one."""
    items = text.split(" ")
    many = viable(items)
    if many < len(items):
        return many
    whole = items == ["-"] or len(items) % 4 == 3
    return None if whole else len(items)


class Texts(Case):
    def same(self, text):
        """Check what reading the text does against the second way."""
        at = refused_at(text)
        if at is None:
            self.assertEqual(str(Weighing.read(text)), text)
        else:
            self.told(BadText(0, at), Weighing.read, text)
        return at is None

    def test_told_ones(self):
        self.assertEqual(str(LIGHT), "b' a' -3 / a' b' 1")
        self.assertEqual(str(Weighing([])), "-")
        self.assertEqual(Weighing.read("-"), Weighing([]))
        self.assertEqual(Weighing.read(text="b' a' -3 / a' b' 1"), LIGHT)
        self.assertEqual(LIGHT.read("y z' 1").rows, ((25, -26, 1),))
        self.assertEqual(Weighing.read("a z' 1 / a y' 1").rows, ((1, -26, 1), (1, -25, 1)))

    def test_refused_ones(self):
        for text, item in (("a b 3", 1), ("", 0), (" ", 0), ("- ", 1), ("- -", 1), ("--", 0), ("a", 1), ("a b'", 2),
                           ("a b' 1 ", 3), ("a b' 1 /", 4), ("a b' 1 / ", 4), ("a b' 1 / b", 5), ("a b' 1 / b c'", 6),
                           ("z", 0), ("z a", 0), ("y", 1), ("y y'", 1), ("y z' 1 /", 3),
                           ("y z' 1 / y", 3), ("a a'", 1), ("a' a", 1), ("a' b 1", 1), ("a' a' 1 / a' b' 1", 4),
                           ("a' b' 1 / a' b' 1", 5), ("a' b' 1 / b' a' 1", 4), ("a y' 1 / a z' 1", 5),
                           ("a b' 1 / a", 4), ("a' a' 1 / a'", 4), ("z' y 1 / z'", 4), ("a b' 0", 2), ("a b' -0", 2),
                           ("a b' +1", 2), ("a b' 01", 2), ("a b' -01", 2), ("a b' 1.0", 2), ("a b' 1_0", 2),
                           ("a b' ", 2), ("a b' -", 2), ("a b' --1", 2), ("a b' a", 2), ("a b' /", 2), ("a  b' 1", 1),
                           ("a b' 1 / -", 4), ("A b' 1", 0), ("a b'' 1", 1), ("' b' 1", 0), ("1 a b'", 0),
                           ("a b' \u0661", 2), ("a b' \u00b2", 2), ("a b' 1\n", 2), ("a\tb' 1", 0), ("/", 0)):
            self.told(BadText(0, item), Weighing.read, text)
            self.assertEqual(refused_at(text), item, text)

    def test_integers_of_60_and_61_digits(self):
        for digits, right in (("9" * 60, True), ("1" + "0" * 59, True), ("9" * 61, False), ("1" + "0" * 60, False),
                              ("0" * 60 + "1", False), ("1" * 5000, False), ("0" * 5000, False)):
            for sign in ("", "-"):
                text = "a b' " + sign + digits
                if right:
                    self.assertEqual(Weighing.read(text).rows, ((1, -2, int(sign + digits)),))
                    self.assertEqual(str(Weighing.read(text)), text)
                else:
                    self.told(BadText(0, 2), Weighing.read, text)

    def test_integers_of_more_digits_are_written(self):
        for many in (60, 61, 119, 120, 121, 4300, 4301, 9000):
            for number in (10 ** many, -(10 ** many) + 1, 7 * 10 ** many + 10 ** (many // 2)):
                text = str(Weighing([(1, -2, number)]))
                self.assertTrue(text.startswith("a b' "))
                digits = text.split(" ")[2]
                value = 0
                for sign in digits.removeprefix("-"):
                    value = value * 10 + int(sign)
                self.assertEqual(-value if digits[0] == "-" else value, number)

    def test_all_begins_of_rows(self):
        names = {letter: str(Word([letter])) for letter in LETTERS}
        for first, second in product(LETTERS, LETTERS):
            self.same(names[first] + " " + names[second] + " 1")
        draws = Draws(882)
        for _ in range(1500):
            one, other = draws.one_of(LESSER), draws.one_of(LESSER)
            if draws.below(2):
                other = (one[0], draws.one_of(LETTERS))
            text = " ".join([names[one[0]], names[one[1]], "5 /", names[other[0]], names[other[1]], "-7"])
            self.same(text)

    def test_drawn_ones_and_bent_ones(self):
        draws = Draws(883)
        items_for = ["a", "a'", "b", "b'", "c", "z", "z'", "y", "/", "-", "", "0", "1", "-1", "12", "-0", "+1", "01",
                     "9" * 61, "a''", "A", "1 ", "'"]
        right = 0
        for count in range(250):
            kinds = draws.mixed(range(1, 27))[:1 + count % 4]
            made = Weighing(drawn_rows(draws, kinds, draws.below(7)))
            text = str(made)
            self.assertEqual(Weighing.read(text), made)
            self.assertTrue(self.same(text))
            items = text.split(" ")
            for _ in range(6):
                at = draws.below(len(items) + 1)
                other = draws.below(len(items))
                swapped = list(items)
                swapped[at - 1], swapped[other] = items[other], items[at - 1]
                for bent in (items[:at] + [draws.one_of(items_for)] + items[at:],
                             items[:at] + [draws.one_of(items_for)] + items[at + 1:], items[:at] + items[at + 1:],
                             items[:at], items + items, swapped, items + ["/"] + items[:3]):
                    right += self.same(" ".join(bent))
        self.assertGreater(right, 300)

    def test_no_strings(self):
        for value in WRONG + (LIGHT, LIGHT.rows, ["-"], b"-", 5):
            if not isinstance(value, str):
                self.told(BadText(0, 0), Weighing.read, value)


class Slopes(Case):
    def test_told_ones(self):
        self.assertEqual(str(slope([(1, 2), (-1, 1)])), "a' a' -1")
        self.assertEqual(slope([]).rows, ())
        self.assertEqual(slope(pairs=[[1, 5]]).rows, ((-1, -1, -5),))
        self.assertEqual(slope([(1, 5), (-1, 5)]).rows, ())
        self.assertEqual(slope([(1, 10 ** 90)]).at(1, 1), 10 ** 90)

    def test_drawn_ones(self):
        draws = Draws(884)
        for count in range(80):
            letters = draws.mixed(all_letters(draws.mixed(range(1, 27))[:1 + count % 4]))
            pairs = [(letter, draws.below(9) - 4) for letter in letters[:1 + draws.below(len(letters))]]
            worths = dict(pairs)
            kinds = {abs(letter) for letter in worths}
            made = slope(pairs)
            for first, second in product(all_letters(sorted(kinds)), repeat=2):
                answer = worths.get(second, 0) - worths.get(-first, 0)
                self.assertEqual(made.at(first, second), answer)
            others = [letter for letter in LETTERS if abs(letter) not in kinds]
            for _ in range(20):
                self.assertEqual(made.at(draws.one_of(others), draws.one_of(LETTERS)), 0)
                self.assertEqual(made.at(draws.one_of(letters), draws.one_of(others)), 0)

    def test_errors(self):
        bent = [[()], [(1,)], [(1, 2, 3)], [(0, 2)], [(27, 2)], [(1, True)], [(True, 1)], [(1, 2.0)], [(1, "2")],
                [("a", 2)], (1, 2), ["12"], {1: 2}, [(1, 2), None], 5, [(1, [2])], [(1, 2), (1, 2), (0, 1)], LIGHT]
        for value in WRONG:
            bent += [[value], [(value, 1)], [(1, value)], [(1, 1), value]]
        for value in bent + list(NO_LISTS):
            self.told(BadWeighing("pairs"), slope, value)
        self.told(Twice(1), slope, [(1, 2), (-1, 2), (1, 3)])
        self.told(Twice(-2), slope, [(-2, 2), (2, 2), [-2, 2], (2, 2)])


class Values(Case):
    def test_told_ones(self):
        self.assertEqual([value_of(LIGHT, Word([1, 2, 1])), value_round(LIGHT, RING)], [2, 4])
        self.assertEqual(walk_values(LIGHT, Bag(RING, [((0, 3, 2, 1), 1)])), (4,))
        self.assertEqual([value_of(LIGHT, Word([])), value_of(LIGHT, Word([1])), value_of(LIGHT, Word([1, -1]))],
                         [0, 0, 0])
        once = Weighing([(1, 1, 7)])
        # A word of one letter is its own neighbour, read round.
        self.assertEqual([value_round(once, rims("a / a'")), value_round(once, rims("a / a / a' a'"))], [0, 0])
        self.assertEqual(value_round(Weighing([(1, 1, 7), (1, 2, 1)]), rims("a / a' b / b'")), 7)
        self.assertEqual([value_of(word=Word([1, 1, 1]), weighing=once), value_round(rims=RING, weighing=LIGHT)],
                         [14, 4])
        self.assertEqual(walk_values(bag=Bag(RING, [((0, 3, 2, 1) * 2, 1), ((0, 3, 2, 1), 5)]), weighing=LIGHT), (4, 8))

    def test_drawn_ones_by_tables(self):
        draws = Draws(885)
        for count in range(200):
            kinds = range(1, 2 + count % 3)
            rows = drawn_rows(draws, kinds, 10)
            made, table = Weighing(rows), table_of(rows)
            word = draws.word(12, len(kinds))
            self.assertEqual(value_of(made, word), along(table, word.letters))
            some = draws.rims(1 + count % 4, 2 + draws.below(11), len(kinds))
            self.assertEqual(value_round(made, some), value_by_hand(table, some))

    def test_walks_of_drawn_bags_by_tables(self):
        draws = Draws(886)
        for _, some, walks in drawn_bags(887, 120):
            bag = Bag(some, walks)
            rows = drawn_rows(draws, range(1, 4), 12)
            self.assertEqual(walk_values(Weighing(rows), bag),
                             tuple(walk_by_hand(table_of(rows), some, walk) for walk, _ in bag.walks))

    def test_errors_in_order(self):
        bag = bag_of(Sewing(RING, [2, 3, 0, 1]))
        for call, part, error, right, others in (
                (value_of, "word", BadWord, Word([1]), (1, [1], "a", RING, LIGHT)),
                (value_round, "rims", BadRims, RING, (1, Word([1, -1]), "a a'", bag, LIGHT)),
                (walk_values, "bag", BadBag, bag, (1, RING, bag.walks, LIGHT))):
            for value in (None, right):
                self.wrong_among(lambda weighing: call(weighing, value), lambda weighing: BadWeighing("weighing"),
                                 NO_WEIGHINGS)
            self.wrong_among(lambda value: call(LIGHT, value), lambda value: error(part), others)


class OfRims(Case):
    def test_large_numbers(self):
        large = Weighing([(1, 2, 10 ** 90)])
        self.assertEqual(value_round(large, RING), 10 ** 90)
        self.assertEqual(value_of(large, Word([1, 2] * 250)), 250 * 10 ** 90)
        # a b six times, and its contrary five times.
        self.assertEqual(value_round(large, Rims([Word([1, 2] * 6 + [-1, -2] * 6)])), 10 ** 90)

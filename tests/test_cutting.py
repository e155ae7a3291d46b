from handlerims.cutting import banded, banded_sewing, cut, unbanded
from handlerims.errors import BadNumber, BadSewing, BadWord, Misfit, NoPlace, TooMany, Twice
from handlerims.rims import Rims
from handlerims.sewings import Sewing, all_sewings
from handlerims.words import Word
from tests import sewn
from tests.cases import Case, rims
from tests.draws import Draws

A, B, EMPTY = Word([1]), Word([2]), Word([])
PAIR = Sewing(rims("a / a'"), [1, 0])
RING = Sewing(rims("a b a' b'"), [2, 3, 0, 1])
FOUR = Sewing(rims("a / a' / b / b'"), [1, 0, 3, 2])
NO_SEWINGS = (1, RING.rims, RING.mates, [1, 0], A)
NO_PLACES = (-1, 4, 24, 10 ** 90, [0], (1,))
NO_KINDS = (0, -1, 27, 10 ** 90, [1], A)


def drawn_sewings(start, many, bands=11, kinds=3):
    draws = Draws(start)
    for count in range(many):
        made = draws.rims(1 + count % 4, 2 + draws.below(bands), 1 + draws.below(kinds))
        yield draws, Sewing(made, draws.mates(made))


def named_rows(sewing):
    """The rims as rows of the names of their bands, a name for each band: what stays when all is moved."""
    names = [min(place, mate) for place, mate in enumerate(sewing.mates)]
    rows, at = [], 0
    for word in sewing.rims.words:
        rows.append([(names[place], sewing.rims.letters[place]) for place in range(at, at + len(word))])
        at += len(word)
    return rows


def from_named_rows(rows):
    """The sewing of rims whose letters are told with the names of their bands."""
    places = [one for row in rows for one in row]
    return Sewing(Rims([Word([letter for _, letter in row]) for row in rows]),
                  [places.index((name, -letter)) for name, letter in places])


def found_in(rows, one):
    """The number of the row in which it stands, and the row turned to begin with it."""
    for home, row in enumerate(rows):
        if one in row:
            at = row.index(one)
            return home, row[at:] + row[:at]
    return None


def unbanded_by_hand(sewing, place):
    rows = named_rows(sewing)
    places = [one for row in rows for one in row]
    home, here = found_in(rows, places[place])
    other, there = found_in(rows, places[sewing.mates[place]])
    if home == other:
        at = here.index(there[0])
        return rows[:home] + [here[1:at], here[at + 1:]] + rows[home + 1:]
    left = [row for at, row in enumerate(rows) if at not in (home, other)]
    first = min(home, other)
    return left[:first] + [here[1:] + there[1:]] + left[first:]


def cut_by_hand(sewing, place, other):
    rows = named_rows(sewing)
    places = [one for row in rows for one in row]
    home, here = found_in(rows, places[place])
    behind, there = found_in(rows, places[other])
    if home == behind:
        at = here.index(there[0])
        return rows[:home] + [here[:at], here[at:]] + rows[home + 1:]
    left = [row for at, row in enumerate(rows) if at not in (home, behind)]
    first = min(home, behind)
    return left[:first] + [here + there] + left[first:]


class Banded(Case):
    def test_rings(self):
        for one, other, kind, answer in (("a", "a'", 2, "a b a' b'"), ("a b", "c", 26, "a b z c z'"),
                                         ("b b'", "b", 1, "b b' a b a'"), ("a", "b", 3, "a c b c'")):
            found = banded(Word.read(one), Word.read(other), kind)
            self.assertIs(type(found), Word)
            self.assertEqual(str(found), answer)
        self.assertEqual(banded(kind=2, other=A, one=A), Word([1, 2, 1, -2]))

    def test_500_letters_and_more(self):
        self.assertEqual(len(banded(A.times(249), A.times(249), 2)), 500)
        self.told(TooMany("letters", 500), banded, A.times(250), A.times(249), 2)
        self.told(TooMany("letters", 500), banded, A.times(500), A.times(500), 2)

    def test_errors_in_order(self):
        self.wrong_among(lambda value: banded(value, None, None), lambda value: BadWord("one"), (1, [1], "a"))
        self.wrong_among(lambda value: banded(EMPTY, value, None), lambda value: BadWord("other"), (1, [1], "a"))
        self.wrong_among(lambda value: banded(EMPTY, EMPTY, value), lambda value: BadNumber("kind"), NO_KINDS)
        for one, other, kind in ((A, B, 1), (A, B, 2), (Word([-1]), B, 1), (EMPTY, B, 2), (B, EMPTY, 2),
                                 (A, Word([3, -2]), 2), (A.times(500), A.times(500), 1)):
            self.told(Twice(kind), banded, one, other, kind)
        for one, other in ((EMPTY, A), (A, EMPTY), (EMPTY, EMPTY), (A.times(500), EMPTY)):
            self.told(Misfit("empty"), banded, one, other, 2)


class BandedSewings(Case):
    def test_all_others_keep_their_mates(self):
        for text, mates, kind, ring, more in (
                ("a / a'", [1, 0], 2, "a b a' b'", (2, 3, 0, 1)),
                ("a b / b' a'", [3, 2, 1, 0], 3, "a b c b' a' c'", (4, 3, 5, 1, 0, 2)),
                ("a a' / b b'", [1, 0, 3, 2], 26, "a a' z b b' z'", (1, 0, 5, 4, 3, 2)),
                ("a / a' b b'", [1, 0, 3, 2], 3, "a c a' b b' c'", (2, 5, 0, 4, 3, 1))):
            found = banded_sewing(Sewing(rims(text), mates), kind)
            self.assertEqual((str(found.rims), found.mates), (ring, more))
        self.assertEqual(banded_sewing(kind=2, sewing=PAIR), RING)

    def test_drawn_ones_cost_one_more_and_are_unbanded_again(self):
        draws = Draws(96)
        for _ in range(150):
            made = draws.rims(2, 2 + draws.below(10), 3)
            sewing = Sewing(made, draws.mates(made))
            found = banded_sewing(sewing, 9)
            self.assertEqual(found.cost, sewing.cost + 1)
            self.assertEqual(sewn.cost_of(found.rims.words, found.mates), found.cost)
            self.assertEqual(found.rims.words[0], banded(made.words[0], made.words[1], 9))
            self.assertEqual(unbanded(found, found.rims.many - 1), sewing)
            here = len(made.words[0])
            self.assertEqual(unbanded(found, here).rims.words, made.words[::-1])

    def test_24_letters_and_more(self):
        for many, fits in ((11, True), (12, False)):
            made = Rims([A.times(many), A.times(-many)])
            sewing = Sewing(made, list(range(2 * many - 1, -1, -1)))
            if fits:
                self.assertEqual(banded_sewing(sewing, 2).rims.many, 24)
            else:
                self.told(TooMany("letters", 24), banded_sewing, sewing, 2)
                self.told(Twice(1), banded_sewing, sewing, 1)

    def test_errors_in_order(self):
        self.wrong_among(lambda value: banded_sewing(value, None), lambda value: BadSewing("sewing"), NO_SEWINGS)
        for sewing in (PAIR, RING, FOUR):
            self.wrong_among(lambda value: banded_sewing(sewing, value), lambda value: BadNumber("kind"), NO_KINDS)
            self.told(Twice(1), banded_sewing, sewing, 1)
        self.told(Twice(2), banded_sewing, FOUR, 2)
        for text in ("a a'", "a / a' / b b'", "a / a' / b / b'"):
            self.told(Misfit("rims"), banded_sewing, all_sewings(rims(text))[0], 3)
        whole = Sewing(Rims([A.times(12).then(A.times(-12))]), list(range(23, -1, -1)))
        self.told(Misfit("rims"), banded_sewing, whole, 2)


class Unbanded(Case):
    def test_bands_taken_out(self):
        for text, mates, place, ring, left in (
                ("a b a' b'", [2, 3, 0, 1], 0, "b / b'", (1, 0)), ("a b a' b'", [2, 3, 0, 1], 1, "a' / a", (1, 0)),
                ("a b a' b'", [2, 3, 0, 1], 2, "b' / b", (1, 0)), ("a b a' b'", [2, 3, 0, 1], 3, "a / a'", (1, 0)),
                ("a b / a' b'", [2, 3, 0, 1], 0, "b b'", (1, 0)), ("a b / a' b'", [2, 3, 0, 1], 2, "b' b", (1, 0)),
                ("a / a' b b'", [1, 0, 3, 2], 0, "b b'", (1, 0)), ("a / a' b b'", [1, 0, 3, 2], 1, "b b'", (1, 0)),
                ("c b / a / a' b' c'", [5, 4, 3, 2, 1, 0], 2, "c b / b' c'", (3, 2, 1, 0)),
                ("c b / a / a' b' c'", [5, 4, 3, 2, 1, 0], 0, "b a' b' / a", (2, 3, 0, 1)),
                ("c b / a / a' b' c'", [5, 4, 3, 2, 1, 0], 5, "a' b' b / a", (3, 2, 1, 0)),
                ("b / a c a' c' / b'", [5, 3, 4, 1, 2, 0], 1, "b / c / c' / b'", (3, 2, 1, 0))):
            found = unbanded(Sewing(rims(text), mates), place)
            self.assertEqual((str(found.rims), found.mates), (ring, left))
        self.assertEqual(unbanded(place=3, sewing=RING), PAIR)

    def test_drawn_ones_by_named_bands(self):
        ways = {}
        for _, sewing in drawn_sewings(97, 160):
            for place in range(sewing.rims.many):
                rows = unbanded_by_hand(sewing, place)
                if [] in rows:
                    self.told(Misfit("empty"), unbanded, sewing, place)
                elif len(rows) > 4:
                    self.told(TooMany("words", 4), unbanded, sewing, place)
                else:
                    found = unbanded(sewing, place)
                    self.assertEqual(found, from_named_rows(rows))
                    self.assertEqual(found.cost, sewing.cost - 1)
                key = "empty" if [] in rows else len(rows) - len(sewing.rims.words)
                ways[key] = ways.get(key, 0) + 1
        self.assertTrue(all(ways[key] > 50 for key in ("empty", 1, -1)))

    def test_where_a_rim_would_have_no_letter(self):
        for text, mates, places in (("a / a'", [1, 0], [0, 1]), ("a a'", [1, 0], [0, 1]),
                                    ("a a' b b'", [1, 0, 3, 2], [0, 1, 2, 3]),
                                    ("b a a' b'", [3, 2, 1, 0], [0, 1, 2, 3]),
                                    ("a / a' / b / b'", [1, 0, 3, 2], [0, 1, 2, 3]),
                                    ("a b b' a' / c d c' d'", [3, 2, 1, 0, 6, 7, 4, 5], [0, 1, 2, 3]),
                                    ("a / b / c c' / b' a'", [5, 4, 3, 2, 1, 0], [2, 3])):
            for place in places:
                self.told(Misfit("empty"), unbanded, Sewing(rims(text), mates), place)

    def test_one_empty_part_of_two_rims_is_no_fault(self):
        for place, ring in ((0, "b"), (1, "b")):
            found = unbanded(Sewing(rims("a / a' b / b'"), [1, 0, 3, 2]), place)
            self.assertEqual(str(found.rims), ring + " / b'")

    def test_five_rims(self):
        sewing = Sewing(rims("a b a' b' / c / c' / d d'"), [2, 3, 0, 1, 5, 4, 7, 6])
        for place in range(4):
            self.told(TooMany("words", 4), unbanded, sewing, place)
        for place in (6, 7):
            self.told(Misfit("empty"), unbanded, sewing, place)
        for place in (4, 5):
            self.told(Misfit("empty"), unbanded, sewing, place)

    def test_errors(self):
        self.wrong_among(lambda value: unbanded(value, None), lambda value: BadSewing("sewing"), NO_SEWINGS)
        self.wrong_among(lambda value: unbanded(RING, value), NoPlace, NO_PLACES)
        self.wrong_among(lambda value: unbanded(FOUR, value), NoPlace, NO_PLACES)


class Cut(Case):
    def test_cut_and_put_together(self):
        for text, mates, place, other, ring, left in (
                ("a b a' b'", [2, 3, 0, 1], 0, 2, "a b / a' b'", (2, 3, 0, 1)),
                ("a b a' b'", [2, 3, 0, 1], 2, 0, "a' b' / a b", (2, 3, 0, 1)),
                ("a b a' b'", [2, 3, 0, 1], 3, 1, "b' a / b a'", (2, 3, 0, 1)),
                ("a b a' b'", [2, 3, 0, 1], 0, 1, "a / b a' b'", (2, 3, 0, 1)),
                ("a b a' b'", [2, 3, 0, 1], 1, 0, "b a' b' / a", (2, 3, 0, 1)),
                ("a b a' b'", [2, 3, 0, 1], 3, 0, "b' / a b a'", (2, 3, 0, 1)),
                ("a b a' b'", [2, 3, 0, 1], 0, 3, "a b a' / b'", (2, 3, 0, 1)),
                ("a b / a' b'", [2, 3, 0, 1], 0, 2, "a b a' b'", (2, 3, 0, 1)),
                ("a b / a' b'", [2, 3, 0, 1], 3, 0, "b' a' a b", (3, 2, 1, 0)),
                ("a / a'", [1, 0], 0, 1, "a a'", (1, 0)), ("a / a'", [1, 0], 1, 0, "a' a", (1, 0)),
                ("a a'", [1, 0], 1, 0, "a' / a", (1, 0)),
                ("a / a' / b / b'", [1, 0, 3, 2], 2, 0, "b a / a' / b'", (3, 2, 1, 0)),
                ("a / a' / b / b'", [1, 0, 3, 2], 3, 1, "a / b' a' / b", (2, 3, 0, 1)),
                ("c / a a' / c'", [3, 2, 1, 0], 2, 1, "c / a' / a / c'", (3, 2, 1, 0))):
            found = cut(Sewing(rims(text), mates), place, other)
            self.assertEqual((str(found.rims), found.mates), (ring, left))
        self.assertEqual(str(cut(other=2, place=0, sewing=RING).rims), "a b / a' b'")

    def test_drawn_ones_by_named_bands(self):
        ways = {}
        for draws, sewing in drawn_sewings(98, 200):
            for _ in range(6):
                place, other = draws.below(sewing.rims.many), draws.below(sewing.rims.many)
                if place == other:
                    continue
                rows = cut_by_hand(sewing, place, other)
                if len(rows) > 4:
                    self.told(TooMany("words", 4), cut, sewing, place, other)
                else:
                    found = cut(sewing, place, other)
                    self.assertEqual(found, from_named_rows(rows))
                    self.assertIn(found.cost - sewing.cost, (1, -1))
                    ways[len(rows) - len(sewing.rims.words)] = True
        self.assertEqual(sorted(ways), [-1, 1])

    def test_cut_and_cut_again(self):
        for draws, sewing in drawn_sewings(99, 100):
            place, other = draws.below(sewing.rims.many), draws.below(sewing.rims.many)
            if place != other and len(cut_by_hand(sewing, place, other)) <= 4:
                found = cut(sewing, place, other)
                rows = named_rows(sewing)
                names = [one for row in rows for one in row]
                # The same two places, where they stand now.
                now = [one for row in cut_by_hand(sewing, place, other) for one in row]
                here, there = now.index(names[place]), now.index(names[other])
                again = cut(found, here, there)
                self.assertEqual(sorted(map(len, again.rims.words)), sorted(map(len, sewing.rims.words)))
                self.assertEqual(again.cost, sewing.cost)

    def test_four_rims_and_five(self):
        sewing = Sewing(rims("a b a' b' / c / c' / d d'"), [2, 3, 0, 1, 5, 4, 7, 6])
        for place in range(4):
            for other in range(4):
                if place != other:
                    self.told(TooMany("words", 4), cut, sewing, place, other)
        self.told(TooMany("words", 4), cut, sewing, 6, 7)
        self.assertEqual(str(cut(sewing, 7, 4).rims), "a b a' b' / d' d c / c'")

    def test_errors_in_order(self):
        self.wrong_among(lambda value: cut(value, None, None), lambda value: BadSewing("sewing"), NO_SEWINGS)
        for sewing in (RING, FOUR):
            self.wrong_among(lambda value: cut(sewing, value, None), NoPlace, NO_PLACES)
            self.wrong_among(lambda value: cut(sewing, 0, value), NoPlace, NO_PLACES)
            self.told(NoPlace(9), cut, sewing, 9, 9)
            self.told(NoPlace(True), cut, sewing, True, True)
            for place in range(4):
                self.told(Twice(place), cut, sewing, place, place)
        # Equal places come ahead of what would be five rims.
        self.told(Twice(1), cut, Sewing(rims("a a' / b / b' / c c'"), [1, 0, 3, 2, 5, 4]), 1, 1)

import itertools
import time

from handlerims.errors import BadNumber
from handlerims.ring_lists import balanced_rings, rings_with
from handlerims.rings import least_turned
from handlerims.words import Word
from tests import sewn
from tests.cases import Case


def rings_by_hand(kinds, letters):
    """The least turned forms, found among all words of so many letters."""
    signs = [sign for sign in range(-kinds, kinds + 1) if sign != 0]
    found = set()
    for row in itertools.product(signs, repeat=letters):
        round_about = list(zip(row, row[1:] + row[:1]))
        if all(one != -other for one, other in round_about):
            if all(row.count(kind) == row.count(-kind) > 0 for kind in range(1, kinds + 1)):
                found.add(min(row[at:] + row[:at] for at in range(letters)))
    return sorted(found)


class RingLists(Case):
    def test_all_lists_by_another_way(self):
        for kinds in (1, 2):
            for letters in range(1, 9):
                found = balanced_rings(kinds, letters)
                self.assertIs(type(found), tuple)
                self.assertTrue(all(isinstance(ring, Word) for ring in found))
                self.assertEqual([ring.letters for ring in found], rings_by_hand(kinds, letters))

    def test_how_many(self):
        self.assertEqual([len(balanced_rings(2, letters)) for letters in range(1, 9)], [0, 0, 0, 2, 0, 4, 0, 28])
        self.assertEqual([balanced_rings(kinds=1, letters=letters) for letters in range(1, 9)], [()] * 8)

    def test_those_with_handles(self):
        for letters, counts in ((4, {1: 2}), (6, {1: 4}), (8, {1: 26, 2: 2}), (7, {})):
            for handles in range(5):
                found = rings_with(kinds=2, letters=letters, handles=handles)
                self.assertEqual(len(found), counts.get(handles, 0))
                self.assertEqual(list(found), [ring for ring in balanced_rings(2, letters)
                                               if sewn.fewest_ring_handles(ring.letters) == handles])
        self.assertEqual(rings_with(2, 8, 10 ** 90), ())
        self.assertEqual(rings_with(1, 8, 0), ())

    def test_each_ring_is_its_own_least_turned_form(self):
        for letters in (4, 6, 8):
            rings = balanced_rings(2, letters)
            self.assertEqual([least_turned(ring) for ring in rings], list(rings))
            self.assertTrue(all(ring.is_short_round and ring.kinds == (1, 2) for ring in rings))
            self.assertEqual(sorted(ring.letters for ring in rings), [ring.letters for ring in rings])

    def test_some_hundred_calls_take_a_short_time(self):
        begun = time.perf_counter()
        for _ in range(100):
            for letters in (6, 7, 8):
                balanced_rings(2, letters)
                rings_with(2, letters, 1)
                rings_with(2, letters, 2)
        self.assertLess(time.perf_counter() - begun, 3)

    def test_a_list_is_made_anew_each_time(self):
        for _ in range(2):
            self.assertEqual([len(rings_with(2, 8, handles)) for handles in range(4)], [0, 26, 2, 0])
            self.assertEqual(len(balanced_rings(2, 8)), 28)

    def test_wrong_numbers(self):
        for call in (balanced_rings, lambda kinds, letters: rings_with(kinds, letters, None)):
            self.wrong_among(lambda value: call(value, None), lambda value: BadNumber("kinds"), (0, 3, -1, 10 ** 90))
            self.wrong_among(lambda value: call(2, value), lambda value: BadNumber("letters"), (0, 9, -1, 10 ** 90))
        self.wrong_among(lambda value: rings_with(2, 8, value), lambda value: BadNumber("handles"), (-1, -10 ** 90))

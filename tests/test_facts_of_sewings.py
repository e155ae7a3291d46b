"""The facts of [5] on drawn rims, by second ways of reckoning."""

import unittest
from math import factorial

from handlerims.exchanged import exchanged, with_pair, without_pair
from handlerims.renamed import renamed
from handlerims.rims import Rims
from handlerims.sewings import Sewing, all_sewings, census, many_sewings
from handlerims.words import Word
from tests import sewn
from tests.draws import Draws


def drawn(start, many, bands=11, kinds=3):
    """Draws, and a sewing of drawn rims, many times, of one, two, three and four words by turns."""
    draws = Draws(start)
    for count in range(many):
        made = draws.rims(1 + count % 4, 2 + draws.below(bands), 1 + draws.below(kinds))
        yield draws, Sewing(made, draws.mates(made))


class Pieces(unittest.TestCase):
    def test_costs_and_pieces_by_joined_points(self):
        for _, sewing in drawn(40, 200):
            words = sewing.rims.words
            self.assertEqual(sewing.cost, sewn.cost_of(words, sewing.mates))
            self.assertEqual([list(piece) for piece in sewing.pieces], sewn.pieces_of(words, sewing.mates))

    def test_the_handles_of_the_pieces_add_up(self):
        several = 0
        for _, sewing in drawn(41, 200, 11, 8):
            handles = 0
            for piece in sewing.pieces:
                places = [at for at in range(sewing.rims.many) if sewing.rims.rim_of(at) in piece]
                alone = Sewing(Rims([sewing.rims.words[rim] for rim in piece]),
                               [places.index(sewing.mates[at]) for at in places])
                self.assertEqual(len(alone.pieces), 1)
                self.assertEqual((2 - len(piece) + alone.cost) % 2, 0)
                self.assertGreaterEqual(alone.handles, 0)
                handles += alone.handles
            self.assertEqual(sewing.handles, handles)
            several += len(sewing.pieces) > 1
        self.assertGreater(several, 20)

    def test_handles_of_one_rim_by_bands_that_lie_across(self):
        draws = Draws(42)
        for _ in range(200):
            made = draws.rims(1, 1 + draws.below(12), 3)
            sewing = Sewing(made, draws.mates(made))
            self.assertEqual(sewing.handles, sewn.ring_handles(sewing.mates))
            self.assertEqual(2 * sewing.handles, sewing.cost + 1)


class Many(unittest.TestCase):
    def test_factorials_multiplied(self):
        for _, sewing in drawn(43, 100, 11, 4):
            many = 1
            for kind in range(1, 27):
                many *= factorial(sewing.rims.letters.count(kind))
            self.assertEqual(many_sewings(sewing.rims), many)


class Costs(unittest.TestCase):
    def test_exchanged_costs_by_2_more_as_much_or_2_less(self):
        changes = set()
        for draws, sewing in drawn(44, 300):
            letters = sewing.rims.letters
            pairs = [(one, other) for one in range(len(letters)) for other in range(len(letters))
                     if one != other and letters[one] == letters[other]]
            if pairs:
                found = exchanged(sewing, *draws.one_of(pairs))
                changes.add(found.cost - sewing.cost)
        self.assertEqual(changes, {-2, 0, 2})

    def test_each_number_between_of_one_kind_is_a_cost(self):
        for _, sewing in drawn(45, 120, 5):
            costs = [cost for cost, _ in census(sewing.rims)]
            self.assertEqual(costs, list(range(costs[0], costs[-1] + 1, 2)))

    def test_the_same_costs_in_other_clothes(self):
        for draws, sewing in drawn(46, 60, 5):
            told = census(sewing.rims)
            words = list(sewing.rims.words)
            self.assertEqual(census(Rims(draws.mixed(words))), told)
            self.assertEqual(census(Rims([word.turned(draws.below(9)) for word in words])), told)
            self.assertEqual(census(Rims([word.contrary() for word in words])), told)
            letters = [kind * draws.one_of([1, -1]) for kind in draws.mixed(range(1, 27))[:3]]
            self.assertEqual(census(Rims([renamed(word, list(zip([1, 2, 3], letters))) for word in words])), told)

    def test_a_pair_put_in_costs_as_much(self):
        for draws, sewing in drawn(47, 100, 9):
            found = with_pair(sewing, draws.below(sewing.rims.many), draws.letter(5))
            self.assertEqual(found.cost, sewing.cost)
            self.assertEqual(len(found.corners), len(sewing.corners) + 1)

    def test_a_pair_taken_out_costs_as_much_or_2_less(self):
        changes = {True: set(), False: set()}
        for _, sewing in drawn(48, 300):
            made = sewing.rims
            for place in range(made.many):
                behind = made.next(place)
                if made.letters[place] == -made.letters[behind] and len(made.words[made.rim_of(place)]) > 2:
                    change = without_pair(sewing, place).cost - sewing.cost
                    changes[sewing.mates[place] == behind].add(change)
        self.assertEqual(changes, {True: {0}, False: {-2, 0}})

    def test_of_one_letter_and_its_contrary(self):
        for many in range(1, 7):
            made = Rims([Word([1] * many), Word([-1] * many)])
            cheap = [sewing for sewing in all_sewings(made) if sewing.cost == 0]
            self.assertEqual(len(cheap), many)
            self.assertEqual(min(sewing.cost for sewing in all_sewings(made)), 0)
            for sewing in all_sewings(made):
                ahead = all(sewing.mates[made.next(at)] == made.nexts.index(sewing.mates[at]) for at in range(many))
                self.assertEqual(sewing.cost == 0, ahead)

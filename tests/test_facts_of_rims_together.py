"""The facts of [8] on drawn rims, by second ways of reckoning."""

import unittest

from handlerims.cheapest import cheapest, in_one
from handlerims.cutting import banded, banded_sewing, cut, unbanded
from handlerims.errors import HandleError
from handlerims.handles import handles_of
from handlerims.renamed import renamed
from handlerims.rims import Rims
from handlerims.sewings import Sewing, all_sewings, many_sewings
from handlerims.tubes import tube, tubes_of
from handlerims.words import Word
from tests import sewn
from tests.draws import Draws
from tests.test_tubes import filled_rings, turns


def drawn(start, many, bands=4, kinds=3):
    draws = Draws(start)
    for count in range(many):
        yield draws, draws.rims(1 + count % 4, 2 + draws.below(bands), 1 + draws.below(kinds))


def rounded(made):
    """The rims shortened round, None if a rim would be empty."""
    words = [word.shortened_round() for word in made.words]
    return Rims(words) if all(len(word) > 0 for word in words) else None


class Costs(unittest.TestCase):
    def test_what_a_piece_costs(self):
        seen = set()
        for draws, made in drawn(110, 250, 11, 8):
            sewing = Sewing(made, draws.mates(made))
            if len(sewing.pieces) == 1:
                self.assertEqual(sewing.cost, 2 * sewing.handles + len(made.words) - 2)
                seen.add(len(made.words))
            more = sum(len(piece) - 2 for piece in sewing.pieces)
            self.assertEqual(sewing.cost, 2 * sewing.handles + more)
        self.assertEqual(seen, {1, 2, 3, 4})

    def test_rims_shortened_round_cost_0_or_more(self):
        free = 0
        for _, made in drawn(111, 300, 4, 2):
            short = rounded(made)
            if short is None:
                continue
            costs = [sewn.cost_of(short.words, mates) for mates in sewn.all_mates(short.letters)]
            self.assertEqual(cheapest(short).cost, min(costs))
            self.assertGreaterEqual(min(costs), 1 if len(short.words) == 1 else 0)
            self.assertIs(min(costs) == 0, tubes_of(short) is not None)
            free += min(costs) == 0
        self.assertGreater(free, 20)

    def test_two_cost_0_exactly_if_they_are_rims_of_a_tube(self):
        draws = Draws(112)
        for _ in range(120):
            one, other = filled_rings(draws, 2, 4, 2)
            if draws.below(2):
                other = one.contrary().turned(draws.below(5))
            if len(one) == len(other) and all(one.many_of(kind) - one.many_of(-kind)
                                              == other.many_of(-kind) - other.many_of(kind) for kind in (1, 2)):
                made = Rims([one, other])
                self.assertIs(cheapest(made).cost == 0, bool(tube(one, other)))
                self.assertEqual(bool(tube(one, other)), bool(turns(one, other)))
                self.assertEqual(bool(tube(one, other)), bool(tube(other, one)))

    def test_as_many_of_a_ring_as_of_its_contrary(self):
        draws = Draws(113)
        for _ in range(100):
            one, = filled_rings(draws, 1, 3, 2)
            rings = [draws.one_of([one, one.contrary()]).turned(draws.below(4)) for _ in range(4)]
            likes = sum(bool(turns(ring, one.contrary())) for ring in rings)
            try:
                made = Rims(rings)
            except HandleError:
                continue
            self.assertIs(tubes_of(made) is not None, likes == 2)


class Bands(unittest.TestCase):
    def test_a_band_taken_out_makes_it_one_cheaper(self):
        done = 0
        for draws, made in drawn(114, 200, 10):
            sewing = Sewing(made, draws.mates(made))
            place = draws.below(made.many)
            try:
                found = unbanded(sewing, place)
            except HandleError:
                continue
            self.assertEqual(found.cost, sewing.cost - 1)
            self.assertEqual(sewn.cost_of(found.rims.words, found.mates), found.cost)
            self.assertEqual(len(found.corners), len(sewing.corners))
            done += 1
        self.assertGreater(done, 100)

    def test_the_ring_of_two_rims_costs_one_more(self):
        done = 0
        for _, made in drawn(115, 200, 4, 2):
            short = rounded(made)
            if short is None or len(short.words) != 2:
                continue
            ring = banded(short.words[0], short.words[1], 26)
            self.assertEqual(handles_of(ring).number, (cheapest(short).cost + 2) // 2)
            found = sorted(banded_sewing(sewing, 26).mates for sewing in all_sewings(short))
            self.assertEqual(found, sewn.all_mates(ring.letters))
            for sewing in all_sewings(short):
                self.assertEqual(banded_sewing(sewing, 26).cost, sewing.cost + 1)
            done += 1
        self.assertGreater(done, 20)

    def test_cut_it_costs_one_less_or_one_more(self):
        seen = set()
        for draws, made in drawn(116, 250, 10):
            sewing = Sewing(made, draws.mates(made))
            place, other = draws.mixed(range(made.many))[:2]
            corner = [corner for corner in sewing.corners if place in corner][0]
            try:
                found = cut(sewing, place, other)
            except HandleError:
                continue
            # Two that step to the places exchange what they come to: one corner is parted, or two are made one.
            more = 1 if other in corner else -1
            self.assertEqual(len(found.corners), len(sewing.corners) + more)
            self.assertEqual(found.cost, sewing.cost - more)
            seen.add(more)
        self.assertEqual(seen, {1, -1})


class Together(unittest.TestCase):
    def test_lots_without_a_common_kind(self):
        draws = Draws(117)
        for count in range(60):
            one = draws.rims(1 + count % 2, 2 + draws.below(3), 2)
            other = draws.rims(1 + draws.below(2), 2 + draws.below(3), 2)
            there = [renamed(word, [(1, 8), (2, -5)]) for word in other.words]
            both = Rims(list(one.words) + there)
            self.assertEqual(cheapest(both).cost, cheapest(one).cost + cheapest(other).cost)
            self.assertEqual(in_one(both).handles, in_one(one).handles + in_one(other).handles)

    def test_with_common_kinds_it_can_be_less(self):
        ring = Word([1, 2, -1, -2])
        self.assertEqual(in_one(Rims([ring])).handles, 1)
        self.assertEqual(in_one(Rims([ring, ring])).handles, 1)
        sewing = Sewing(Rims([ring, ring]), [6, 3, 4, 1, 2, 7, 0, 5])
        self.assertEqual((sewing.corners, sewing.cost, sewing.pieces), (((0, 7, 6, 1), (2, 5, 4, 3)), 2, ((0, 1),)))

    def test_two_words_and_the_contrary_of_both(self):
        draws = Draws(118)
        for _ in range(100):
            x, y = [Word([draws.letter(3) for _ in range(1 + draws.below(4))]) for _ in range(2)]
            both = x.then(y)
            made = Rims([x, y, both.contrary()])
            sewing = Sewing(made, list(range(made.many - 1, -1, -1)))
            self.assertEqual(sewing.cost, 1)
            if many_sewings(made) <= 720:
                self.assertLessEqual(cheapest(made).cost, 1)

    def test_the_same_in_other_clothes(self):
        for draws, made in drawn(119, 80):
            told = (cheapest(made).cost, in_one(made).handles)
            words = list(made.words)
            for other in (draws.mixed(words), [word.turned(draws.below(9)) for word in words],
                          [word.contrary() for word in words]):
                self.assertEqual((cheapest(Rims(other)).cost, in_one(Rims(other)).handles), told)

    def test_a_rim_more_and_its_contrary_add_at_most_0(self):
        done = 0
        for draws, made in drawn(120, 120, 3, 2):
            if len(made.words) > 2:
                continue
            ring, = filled_rings(draws, 1, 3, 3)
            more = Rims(list(made.words) + [ring, ring.contrary().turned(draws.below(3))])
            if many_sewings(more) <= 720:
                self.assertLessEqual(cheapest(more).cost, cheapest(made).cost)
                self.assertLessEqual(in_one(more).handles, in_one(made).handles)
                done += 1
        self.assertGreater(done, 40)

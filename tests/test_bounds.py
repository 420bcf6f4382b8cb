"""[14] bounds of partings, [16] what right_needed lets by."""

import random
import unittest
from itertools import product

from fewforests.bounds import bound_of, least_bound, right_fill, right_needed
from fewforests.errors import TooGreat
from fewforests.fewest import fill_forests
from fewforests.partings import all_partings
from tests import looks


def needed_things(web, k):
    """What right_needed is to let by of a small web, found by looking at all layings and partings."""
    layings = looks.fullest(web, k)
    leaving = [next((one for one in layings if one[tie] is None), None) for tie in range(len(web[1]))]
    for parting in all_partings(web):
        if looks.bound(web, k, parting) == looks.laid(layings[0]):
            yield layings[0], parting, tuple(
                None if parting[a] != parting[b] else leaving[tie] for tie, (a, b) in enumerate(web[1]))


class Bounds(unittest.TestCase):

    def test_bound_of(self):
        chance = random.Random(14)
        for web in looks.NAMED_WEBS + looks.great_webs() + looks.chance_webs(140, 60):
            for k in (0, 1, 2, 120):
                drawn = [chance.randint(0, 4) for point in range(web[0])]
                firsts = list(dict.fromkeys(drawn))
                parting = tuple(firsts.index(part) for part in drawn)
                self.assertEqual(bound_of(web, k, parting), looks.bound(web, k, parting))

    def test_bounds_in_full(self):
        web = (4, ((0, 1), (0, 1), (1, 2), (2, 3)))
        self.assertEqual(bound_of(web, 3, (0, 0, 0, 0)), 9)
        self.assertEqual(bound_of(web, 3, (0, 1, 2, 3)), 4)
        self.assertEqual(bound_of(web, 1, (0, 0, 1, 2)), 3)
        self.assertEqual(bound_of((1, ()), 120, (0,)), 0)
        self.assertEqual(bound_of((40, ()), 120, (0,) * 40), 120 * 39)

    def test_no_laying_has_more_ties_laid(self):
        for web in looks.chance_webs(141, 20, 4, 5):
            for k in range(3):
                for laying in looks.fullest(web, k):
                    for parting in all_partings(web):
                        self.assertLessEqual(looks.laid(laying), bound_of(web, k, parting))

    def test_least_bound(self):
        for web in looks.chance_webs(142, 40, 7, 15) + [looks.full_web(7), looks.ring_web(7), (7, ()), (1, ())]:
            for k in (0, 1, 2, 3, 120):
                least = min(looks.bound(web, k, parting) for parting in all_partings(web))
                self.assertEqual(least_bound(web, k), least)

    def test_least_bound_is_met_by_the_fullest(self):
        for web in looks.chance_webs(143, 20, 4, 5):
            for k in range(3):
                self.assertEqual(least_bound(web, k), looks.laid(looks.fullest(web, k)[0]))

    def test_least_bound_refuses_from_eight_points_on(self):
        for points in range(8, 41):
            with self.assertRaises(TooGreat):
                least_bound((points, ()), 1)


class RightFill(unittest.TestCase):

    def same(self, web, k, thing):
        self.assertIs(right_fill(web, k, thing), looks.is_fill(web, k, thing), (web, k, thing))

    def test_all_layings_and_partings_of_small_webs(self):
        right = 0
        for web in looks.chance_webs(144, 15, 4, 4):
            for k in range(3):
                for laying in product([None] + list(range(k)), repeat=len(web[1])):
                    for parting in all_partings(web):
                        self.same(web, k, (laying, parting))
                        right += right_fill(web, k, (laying, parting))
        self.assertGreater(right, 20)

    def test_bent(self):
        for web in looks.chance_webs(145, 25, 5, 8):
            for k in (0, 1, 2, 120):
                fill = fill_forests(web, k)
                self.assertIs(right_fill(web, k, fill), True)
                for thing in looks.bent(fill):
                    self.same(web, k, thing)

    def test_anything(self):
        for thing in looks.odd_things():
            for web in ((1, ()), (2, ((0, 1),)), (3, ((0, 1), (0, 1)))):
                for k in (0, 1, 120):
                    for whole in (thing, (thing, thing), ((0,), thing), (thing, (0, 1)), ((0, None), thing), (thing,)):
                        self.same(web, k, whole)


class RightNeeded(unittest.TestCase):

    def same(self, web, k, thing):
        self.assertIs(right_needed(web, k, thing), looks.is_needed(web, k, thing), (web, k, thing))

    def test_what_is_so_is_let_by_and_what_is_bent_is_not(self):
        right = wrong = 0
        for web in looks.chance_webs(16, 40, 4, 5):
            for k in range(3):
                for thing in needed_things(web, k):
                    self.same(web, k, thing)
                    right += right_needed(web, k, thing)
                    for other in looks.bent(thing, (None, 0, True, "0", (), [0])):
                        self.same(web, k, other)
                        wrong += not right_needed(web, k, other)
        self.assertGreater(right, 50)
        self.assertGreater(wrong, 1000)

    def test_told_in_full(self):
        web = (3, ((0, 1), (0, 1), (1, 2)))
        self.assertIs(right_needed(web, 1, ((0, None, 0), (0, 0, 1), ((None, 0, 0), (0, None, 0), None))), True)
        self.assertIs(right_needed(web, 1, ((0, None, 0), (0, 0, 0), ((None, 0, 0), (0, None, 0), None))), False)
        self.assertIs(right_needed(web, 1, ((0, None, 0), (0, 0, 1), ((None, 0, 0), None, None))), False)
        self.assertIs(right_needed(web, 1, ((0, None, 0), (0, 0, 1), ((0, None, 0), (0, None, 0), None))), False)
        self.assertIs(right_needed(web, 1, ((0, None, 0), (0, 0, 1), ((None, None, 0), (0, None, 0), None))), False)
        self.assertIs(right_needed(web, 1, ((0, None, 0), (0, 0, 1), ((None, 0, 0), (0, None, 0), (0, None, 0)))), False)
        self.assertIs(right_needed(web, 1, ((0, None, 0), (0, 0, 1), [(None, 0, 0), (0, None, 0), None])), False)
        self.assertIs(right_needed(web, 1, ((0, None, 0), (0, 0, 1))), False)
        self.assertIs(right_needed((1, ()), 0, ((), (0,), ())), True)
        self.assertIs(right_needed((1, ()), 120, ((), (0,), ())), True)

    def test_one_ring_and_many_ties_at_the_edges(self):
        ring = looks.ring_web(40)
        others = tuple(tuple(None if tie == out else 0 for tie in range(40)) for out in range(40))
        self.assertIs(right_needed(ring, 1, (others[0], (0,) * 40, others)), True)
        self.assertIs(right_needed(ring, 1, (others[0], (0,) * 40, others[1:] + others[:1])), False)
        self.assertIs(right_needed(ring, 2, ((0,) * 39 + (1,), tuple(range(40)), (None,) * 40)), True)
        many = looks.many_ties(2, 120)
        others = tuple(tuple(range(out)) + (None,) + tuple(range(out, 119)) for out in range(120))
        self.assertIs(right_needed(many, 119, (others[5], (0, 0), others)), True)
        self.assertIs(right_needed(many, 120, (tuple(range(120)), (0, 1), (None,) * 120)), True)
        self.assertIs(right_needed(many, 119, (others[5], (0, 1), (None,) * 120)), False)

    def test_anything(self):
        web, laying, parting = (3, ((0, 1), (0, 1))), (0, None), (0, 0, 1)
        for thing in looks.odd_things():
            for k in (0, 1, 120):
                for whole in (thing, (thing, thing, thing), (laying, parting, thing), (laying, thing, ()),
                              (laying, parting, ((None, 0), thing)), (laying, parting, (thing, (0, None))),
                              (thing, parting, ((None, 0), (0, None)))):
                    self.same(web, k, whole)
                    self.same((1, ()), k, whole)


if __name__ == "__main__":
    unittest.main()

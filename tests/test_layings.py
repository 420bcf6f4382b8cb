"""[7] right layings, [8] rings of ties, [9] full lots."""

import random
import unittest
from itertools import combinations, product

from fewforests.layings import right_laying, ring_of
from fewforests.lots import right_full
from tests import looks


class RightLaying(unittest.TestCase):

    def same(self, web, k, thing):
        self.assertIs(right_laying(web, k, thing), looks.is_laying(web, k, thing), (web, k, thing))

    def test_all_tuples_of_small_webs(self):
        for web in looks.chance_webs(7, 30, 4, 5):
            for k in range(3):
                for thing in product([None] + list(range(k + 1)), repeat=len(web[1])):
                    self.same(web, k, thing)

    def test_drawn_layings_are_let_by_and_rings_are_not(self):
        chance = random.Random(71)
        for web in looks.NAMED_WEBS + looks.great_webs() + looks.chance_webs(72, 60):
            for k in (0, 1, 2, 3, 120):
                laying = looks.chance_laying(chance, web, min(k, 5))
                self.assertIs(right_laying(web, k, laying), True)
                for turn in range(5):
                    thing = tuple(chance.choice([entry, 0, 1, None]) for entry in laying)
                    self.same(web, k, thing)

    def test_edges(self):
        many = (2, ((0, 1),) * 120)
        self.assertIs(right_laying(many, 120, tuple(range(120))), True)
        self.assertIs(right_laying(many, 119, tuple(range(120))), False)
        self.assertIs(right_laying(many, 120, (0,) + tuple(range(119))), False)
        self.assertIs(right_laying(many, 120, (None,) + tuple(range(119))), True)
        self.assertIs(right_laying(many, 0, (None,) * 120), True)
        self.assertIs(right_laying(many, 0, (None,) * 119 + (0,)), False)
        self.assertIs(right_laying((1, ()), 0, ()), True)
        self.assertIs(right_laying((1, ()), 120, ()), True)
        self.assertIs(right_laying((1, ()), 0, (None,)), False)
        self.assertIs(right_laying((2, ((0, 1),)), 1, (-1,)), False)
        self.assertIs(right_laying((2, ((0, 1),)), 2, (True,)), False)
        self.assertIs(right_laying((2, ((0, 1),)), 2, (False,)), False)
        self.assertIs(right_laying((2, ((0, 1),)), 2, [1]), False)

    def test_anything(self):
        for thing in looks.odd_things():
            for web in ((1, ()), (2, ((0, 1),)), (3, ((0, 1), (1, 2))), (2, ((0, 1), (0, 1), (0, 1)))):
                for k in (0, 1, 3, 120):
                    for whole in (thing, (thing,), (thing, None), (0, thing), (0, None, thing)):
                        self.same(web, k, whole)

    def test_bent(self):
        chance = random.Random(73)
        for web in looks.chance_webs(74, 30, 5, 8):
            for k in (1, 2, 120):
                for thing in looks.bent(looks.chance_laying(chance, web, min(k, 4))):
                    self.same(web, k, thing)


class RingOf(unittest.TestCase):

    def same(self, web, laying, tie, forest):
        told = ring_of(web, laying, tie, forest)
        self.assertEqual(told, looks.ring(web, laying, tie, forest))
        self.assertTrue(told is None or type(told) is tuple and all(type(number) is int for number in told))

    def test_rings_in_all_other_forests(self):
        chance = random.Random(8)
        for web in looks.NAMED_WEBS + looks.chance_webs(81, 120, 8, 14):
            for k in (0, 1, 2, 4):
                laying = looks.chance_laying(chance, web, k)
                for tie, forest in product(range(len(web[1])), range(k)):
                    if laying[tie] != forest:
                        self.same(web, laying, tie, forest)

    def test_great_webs(self):
        chance = random.Random(82)
        for web in looks.great_webs():
            laying = looks.chance_laying(chance, web, 4)
            for tie, forest in product(range(0, len(web[1]), 7), range(4)):
                if laying[tie] != forest:
                    self.same(web, laying, tie, forest)

    def test_in_order_from_the_lesser_end(self):
        web = (5, ((3, 4), (1, 3), (0, 1), (0, 4), (0, 4)))
        laying = (0, 0, 0, None, 1)
        self.assertEqual(ring_of(web, laying, 3, 0), (2, 1, 0))
        self.assertEqual(ring_of(web, laying, 3, 1), (4,))
        self.assertEqual(ring_of(web, laying, 4, 0), (2, 1, 0))
        self.assertIsNone(ring_of(web, laying, 0, 1))
        self.assertIsNone(ring_of(web, laying, 0, 119))

    def test_the_longest_ring(self):
        laying = (0,) * 39 + (None,)
        self.assertEqual(ring_of(looks.ring_web(40), laying, 39, 0), tuple(range(39)))

    def test_free_where_nothing_lies(self):
        web = (2, ((0, 1),) * 120)
        self.assertIsNone(ring_of(web, (None,) * 120, 119, 119))
        self.assertEqual(ring_of(web, tuple(range(119)) + (None,), 119, 118), (118,))


class RightFull(unittest.TestCase):

    def same(self, web, k, thing):
        self.assertIs(right_full(web, k, thing), looks.is_full(web, k, thing), (web, k, thing))

    def test_all_lots_of_small_webs(self):
        for web in looks.chance_webs(9, 40, 5, 14):
            for size in range(web[0] + 1):
                for lot in combinations(range(web[0]), size):
                    for k in range(8):
                        self.same(web, k, lot)

    def test_edges(self):
        many = (2, ((0, 1),) * 120)
        self.assertIs(right_full(many, 119, (0, 1)), True)
        self.assertIs(right_full(many, 120, (0, 1)), False)
        self.assertIs(right_full(many, 0, (0, 1)), True)
        self.assertIs(right_full(many, 0, (0,)), False)
        self.assertIs(right_full(many, 0, ()), False)
        self.assertIs(right_full(many, 1, (1, 0)), False)
        self.assertIs(right_full(many, 1, (0, 0, 1)), False)
        self.assertIs(right_full(many, 1, (0, True)), False)
        self.assertIs(right_full(many, 1, [0, 1]), False)
        self.assertIs(right_full((3, ((0, 1),) * 3), 1, (0, 1, 3)), False)
        self.assertIs(right_full((3, ((0, 1),) * 3), 1, (-1, 0, 1)), False)
        self.assertIs(right_full(looks.full_web(16), 7, tuple(range(16))), True)
        self.assertIs(right_full(looks.full_web(16), 8, tuple(range(16))), False)

    def test_anything(self):
        for thing in looks.odd_things():
            for k in (0, 1, 120):
                for whole in (thing, (thing,), (0, thing), (thing, 1), (0, 1, thing)):
                    self.same((3, ((0, 1),) * 4 + ((1, 2),) * 3), k, whole)
                    self.same((40, ((0, 39), (0, 1), (0, 1))), k, whole)

    def test_bent(self):
        for k in (0, 1, 2):
            for lot in ((0,), (0, 1), (0, 1, 2), (1, 2)):
                for thing in looks.bent(lot):
                    self.same((3, ((0, 1),) * 4 + ((1, 2),) * 3), k, thing)

    def test_no_whole_laying_where_a_lot_is_full(self):
        for web in looks.chance_webs(91, 30, 4, 5):
            for k in range(3):
                lots = [lot for size in range(1, web[0] + 1) for lot in combinations(range(web[0]), size)]
                full = any(right_full(web, k, lot) for lot in lots)
                whole = any(right_laying(web, k, thing) for thing in product(range(k), repeat=len(web[1])))
                self.assertIs(full, not whole)


if __name__ == "__main__":
    unittest.main()

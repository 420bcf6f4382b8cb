"""[14] fill_forests, [15] lay_all, [17] fewest_forests, and what [3] says of them."""

import unittest
from itertools import product

from fewforests.bounds import least_bound, right_fill
from fewforests.fewest import fewest_forests, fill_forests, lay_all
from fewforests.layings import right_laying
from fewforests.lots import right_full
from tests import looks

SMALL = looks.NAMED_WEBS + looks.chance_webs(17, 80, 7, 18)
GREAT = looks.great_webs() + [looks.strip(points, points) for points in (5, 16, 40)]
NUMBERS = (0, 1, 2, 3, 4, 7, 39, 119, 120)


def own_fewest(web):
    """The fewest forests that have a whole laying, by looking at all, of a small web."""
    for k in range(len(web[1]) + 1):
        if any(looks.is_laying(web, k, thing) for thing in product(range(k), repeat=len(web[1]))):
            return k


class FillForests(unittest.TestCase):

    def fills(self, web, k):
        """How many ties are laid: as many as the told parting lets."""
        told = fill_forests(web, k)
        self.assertIs(right_fill(web, k, told), True)
        laying, parting = told
        self.assertTrue(looks.is_laying(web, k, laying))
        self.assertTrue(looks.is_parting(web, parting))
        self.assertEqual(looks.laid(laying), looks.bound(web, k, parting))
        return looks.laid(laying)

    def test_laid_ties_and_bound_meet(self):
        for web in SMALL + GREAT:
            for k in NUMBERS:
                self.fills(web, k)

    def test_the_least_bound_of_all_partings_is_met(self):
        for web in SMALL:
            if web[0] <= 7:
                for k in (0, 1, 2, 3, 120):
                    self.assertEqual(self.fills(web, k), least_bound(web, k))

    def test_one_forest_more_never_lays_more_ties_more(self):
        for web in SMALL + [web for web in GREAT if fewest_forests(web)[0] < 20]:
            laid = [self.fills(web, k) for k in range(fewest_forests(web)[0] + 2)]
            gains = [after - before for before, after in zip(laid, laid[1:])]
            self.assertEqual(gains, sorted(gains, reverse=True))
            self.assertEqual(laid[-1], len(web[1]))

    def test_told_in_full(self):
        self.assertEqual(fill_forests((1, ()), 0), ((), (0,)))
        self.assertEqual(fill_forests((1, ()), 120), ((), (0,)))
        self.assertEqual(self.fills(looks.many_ties(2, 120), 119), 119)
        self.assertEqual(self.fills(looks.many_ties(40, 120), 120), 120)
        self.assertEqual(self.fills(looks.ring_web(40), 1), 39)
        self.assertEqual(self.fills(looks.full_web(16), 7), 105)
        self.assertEqual(self.fills((40, ()), 120), 0)


class LayAll(unittest.TestCase):

    def lays(self, web, k):
        told = lay_all(web, k)
        self.assertIs(type(told), tuple)
        word, paper = told
        if word == "laid":
            self.assertTrue(looks.is_laying(web, k, paper))
            self.assertNotIn(None, paper)
            self.assertIs(right_laying(web, k, paper), True)
        else:
            self.assertEqual(word, "full")
            self.assertTrue(looks.is_full(web, k, paper))
            self.assertIs(right_full(web, k, paper), True)
        return word

    def test_laid_from_the_fewest_on_and_full_below(self):
        for web in SMALL + GREAT:
            fewest = fewest_forests(web)[0]
            for k in {0, 1, 2, max(0, fewest - 1), fewest, min(120, fewest + 1), 120}:
                self.assertEqual(self.lays(web, k), "laid" if k >= fewest else "full")

    def test_no_ties_are_laid_in_no_forest(self):
        self.assertEqual(lay_all((1, ()), 0), ("laid", ()))
        self.assertEqual(lay_all((40, ()), 0), ("laid", ()))
        self.assertEqual(lay_all((3, ((1, 2),)), 0), ("full", (1, 2)))


class FewestForests(unittest.TestCase):

    def fewest(self, web):
        told = fewest_forests(web)
        self.assertIs(type(told), tuple)
        k, laying, lot = told
        self.assertIs(type(k), int)
        self.assertTrue(looks.is_laying(web, k, laying))
        self.assertNotIn(None, laying)
        if k == 0:
            self.assertIsNone(lot)
        else:
            self.assertTrue(looks.is_full(web, k - 1, lot))
            self.assertIs(right_full(web, k - 1, lot), True)
        return k

    def test_laying_and_full_lot_meet(self):
        for web in SMALL + GREAT + looks.chance_webs(170, 60, 16, 60) + looks.chance_webs(171, 15, 40, 120):
            self.fewest(web)

    def test_the_fewest_of_all(self):
        for web in looks.chance_webs(172, 40, 4, 6):
            self.assertEqual(self.fewest(web), own_fewest(web))

    def test_known_webs(self):
        for points in range(2, 17):
            self.assertEqual(self.fewest(looks.full_web(points)), (points + 1) // 2)
        for points in range(3, 41):
            self.assertEqual(self.fewest(looks.ring_web(points)), 2)
        for points in range(2, 41):
            self.assertEqual(self.fewest(looks.path_web(points)), 1)
            self.assertEqual(self.fewest(looks.star_web(points)), 1)
            self.assertEqual(self.fewest((points, ())), 0)
        for many in (1, 2, 3, 60, 119, 120):
            self.assertEqual(self.fewest(looks.many_ties(2, many)), many)
            self.assertEqual(self.fewest(looks.many_ties(40, many, (0, 39))), many)
        self.assertEqual(self.fewest((40, looks.ring_web(40)[1] * 3)), 4)
        self.assertEqual(self.fewest((40, looks.path_web(40)[1] * 3)), 3)
        self.assertEqual(self.fewest((40, ((0, 39),) * 119 + ((0, 1),))), 119)

    def test_no_ties(self):
        self.assertEqual(fewest_forests((1, ())), (0, (), None))
        self.assertEqual(fewest_forests((40, ())), (0, (), None))


if __name__ == "__main__":
    unittest.main()

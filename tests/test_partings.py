"""[6] partings, ties between, all partings."""

import random
import unittest
from itertools import product

from fewforests.errors import TooGreat
from fewforests.partings import all_partings, is_parting, ties_between
from tests import looks

BELL = [1, 1, 2, 5, 15, 52, 203, 877]


class Partings(unittest.TestCase):

    def test_all_tuples_of_small_webs(self):
        for points in range(1, 6):
            for thing in product(range(-1, points + 1), repeat=points):
                self.assertIs(is_parting((points, ()), thing), looks.is_parting((points, ()), thing))

    def test_edges(self):
        self.assertIs(is_parting((40, ()), tuple(range(40))), True)
        self.assertIs(is_parting((40, ()), (0,) * 40), True)
        self.assertIs(is_parting((40, ()), (0,) * 39 + (2,)), False)
        self.assertIs(is_parting((40, ()), (0,) * 41), False)
        self.assertIs(is_parting((2, ()), (0, True)), False)
        self.assertIs(is_parting((2, ()), (False, 1)), False)
        self.assertIs(is_parting((2, ()), (False, False)), False)
        self.assertIs(is_parting((2, ()), [0, 1]), False)
        self.assertIs(is_parting((2, ()), (1, 0)), False)

    def test_anything(self):
        for thing in looks.odd_things():
            for points in (1, 2, 3, 40):
                for whole in (thing, (thing,), (0, thing), (thing, 0), (0, 1, thing)):
                    self.assertIs(is_parting((points, ()), whole), looks.is_parting((points, ()), whole))

    def test_bent(self):
        for parting in ((0,), (0, 1), (0, 0, 1), (0, 1, 0, 2), (0, 1, 2, 3, 1, 0)):
            web = (len(parting), ())
            for thing in looks.bent(parting):
                self.assertIs(is_parting(web, thing), looks.is_parting(web, thing))


class Between(unittest.TestCase):

    def test_counts(self):
        chance = random.Random(6)
        for web in looks.NAMED_WEBS + looks.great_webs() + looks.chance_webs(61, 80):
            for turn in range(5):
                drawn = [chance.randint(0, 5) for point in range(web[0])]
                firsts = list(dict.fromkeys(drawn))
                parting = tuple(firsts.index(part) for part in drawn)
                self.assertEqual(ties_between(web, parting), looks.between(web, parting))

    def test_edges(self):
        web = (2, ((0, 1),) * 120)
        self.assertEqual(ties_between(web, (0, 1)), 120)
        self.assertEqual(ties_between(web, (0, 0)), 0)
        self.assertEqual(ties_between((1, ()), (0,)), 0)


class AllPartings(unittest.TestCase):

    def test_each_once_in_order(self):
        for points in range(1, 8):
            told = all_partings((points, ()))
            self.assertIs(type(told), list)
            self.assertEqual(len(told), BELL[points])
            self.assertEqual(told, sorted(set(told)))
            self.assertTrue(all(looks.is_parting((points, ()), parting) for parting in told))

    def test_small_ones_in_full(self):
        self.assertEqual(all_partings((1, ())), [(0,)])
        self.assertEqual(all_partings((2, ((0, 1),) * 120)), [(0, 0), (0, 1)])
        self.assertEqual(all_partings((3, ())), [(0, 0, 0), (0, 0, 1), (0, 1, 0), (0, 1, 1), (0, 1, 2)])

    def test_too_great_from_eight_points_on(self):
        for points in range(8, 41):
            with self.assertRaises(TooGreat):
                all_partings((points, ()))

    def test_a_told_list_may_be_changed(self):
        for points in range(1, 8):
            first = all_partings((points, ()))
            kept = list(first)
            first[0] = None
            first.append(first)
            second = all_partings((points, ()))
            self.assertEqual(second, kept)
            second.clear()
            self.assertEqual(all_partings((points, ())), kept)


if __name__ == "__main__":
    unittest.main()

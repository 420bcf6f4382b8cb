"""[24] ways, outs and crowded lots, the fewest outs, [25] ways towards the roots of trees."""

import random
import unittest
from itertools import product

from fewforests.fewest import fewest_forests
from fewforests.outward import fewest_outs, rooted_ways
from fewforests.ways import outs_of, right_crowded, right_ways
from tests import looks

SIMPLE = [looks.full_web(points) for points in range(2, 13)] + [looks.ring_web(9), looks.path_web(9), looks.star_web(9)]


def is_crowded(web, d, thing):
    return looks.is_lot(web, thing) and looks.within(web, thing) > d * len(thing)


def own_rooted(web, k, laying, root):
    """By steps from each root: a point is farther than the one from which it is first seen."""
    ways = [None] * len(laying)
    for forest in range(k):
        numbers = looks.lying(laying, forest)
        for tree in set(looks.joined(web, numbers)):
            seen = [root if root in tree else min(tree)]
            for point in seen:
                for number in numbers:
                    if point in web[1][number]:
                        other = sum(web[1][number]) - point
                        if other not in seen:
                            seen.append(other)
                            ways[number] = other
    return tuple(ways)


def untwice(web):
    """The web with no two points tied twice."""
    return (web[0], tuple(dict.fromkeys(web[1])))


class RightWays(unittest.TestCase):

    def same(self, web, d, thing):
        told = right_ways(web, d, thing)
        self.assertIs(told, looks.is_ways(web, thing) and max(looks.outs(web, thing)) <= d, (web, d, thing))
        return told

    def test_outs(self):
        chance = random.Random(24)
        for web in looks.NAMED_WEBS + looks.great_webs() + looks.chance_webs(240, 60):
            ways = looks.chance_ways(chance, web)
            told = outs_of(web, ways)
            self.assertEqual(told, tuple(ways.count(point) for point in range(web[0])))
            self.assertIs(type(told), tuple)
            self.assertEqual(sum(told), len(web[1]))
        self.assertEqual(outs_of((3, ((0, 1), (1, 2), (0, 1))), (1, 1, 0)), (1, 2, 0))
        self.assertEqual(outs_of((1, ()), ()), (0,))

    def test_all_tuples_of_small_webs(self):
        right = 0
        for web in looks.chance_webs(241, 30, 4, 4):
            for thing in product(range(-1, web[0] + 1), repeat=len(web[1])):
                for d in range(5):
                    right += self.same(web, d, thing)
        self.assertGreater(right, 100)

    def test_bent(self):
        chance = random.Random(242)
        for web in looks.chance_webs(243, 40, 6, 8):
            ways = looks.chance_ways(chance, web)
            for thing in [ways] + looks.bent(ways):
                for d in (0, 1, 2, 3, 120):
                    self.same(web, d, thing)

    def test_edges(self):
        many = looks.many_ties(2, 120)
        self.assertIs(right_ways(many, 120, (0,) * 120), True)
        self.assertIs(right_ways(many, 119, (0,) * 120), False)
        self.assertIs(right_ways(many, 60, (0, 1) * 60), True)
        self.assertIs(right_ways(many, 59, (0, 1) * 60), False)
        self.assertIs(right_ways(many, 120, (0,) * 119), False)
        self.assertIs(right_ways(many, 120, (0,) * 121), False)
        self.assertIs(right_ways((40, ()), 0, ()), True)
        self.assertIs(right_ways((40, ((0, 39),)), 0, (0,)), False)
        self.assertIs(right_ways((40, ((0, 39),)), 1, (39,)), True)
        for point in (-1, 1, 38, 40, True, False, None, "0", (0,), [39]):
            self.assertIs(right_ways((40, ((0, 39),)), 1, (point,)), False)
        self.assertIs(right_ways((40, ((0, 1),)), 1, [0]), False)

    def test_anything(self):
        for thing in looks.odd_things():
            for web in ((1, ()), (2, ((0, 1),)), (3, ((0, 1), (1, 2))), (2, ((0, 1),) * 3)):
                for d in (0, 1, 120):
                    for whole in (thing, (thing,), (thing, 1), (0, thing), (0, 1, thing)):
                        self.same(web, d, whole)


class RightCrowded(unittest.TestCase):

    def same(self, web, d, thing):
        self.assertIs(right_crowded(web, d, thing), is_crowded(web, d, thing), (web, d, thing))

    def test_all_lots_of_small_webs(self):
        right = 0
        for web in looks.chance_webs(244, 40, 5, 16):
            for lot in looks.all_lots(web) + [()]:
                for d in (0, 1, 2, 3, 4, 120):
                    self.same(web, d, lot)
                    right += right_crowded(web, d, lot)
        self.assertGreater(right, 200)

    def test_bent(self):
        web = (3, ((0, 1),) * 5 + ((1, 2),) * 3)
        for d in (0, 1, 2, 3):
            for lot in looks.all_lots(web):
                for thing in looks.bent(lot):
                    self.same(web, d, thing)

    def test_edges(self):
        many = looks.many_ties(2, 120)
        self.assertIs(right_crowded(many, 59, (0, 1)), True)
        self.assertIs(right_crowded(many, 60, (0, 1)), False)
        self.assertIs(right_crowded(many, 0, (0,)), False)
        self.assertIs(right_crowded(many, 0, ()), False)
        self.assertIs(right_crowded(many, 0, [0, 1]), False)
        self.assertIs(right_crowded(many, 0, (1, 0)), False)
        self.assertIs(right_crowded(many, 0, (0, True)), False)
        self.assertIs(right_crowded(looks.many_ties(3, 7), 2, (0, 1, 2)), True)
        self.assertIs(right_crowded(looks.many_ties(3, 6), 2, (0, 1, 2)), False)

    def test_anything(self):
        for thing in looks.odd_things():
            for d in (0, 1, 120):
                for whole in (thing, (thing,), (0, thing), (thing, 1), (0, 1, thing)):
                    self.same((3, ((0, 1),) * 4 + ((1, 2),) * 3), d, whole)
                    self.same((1, ()), d, whole)

    def test_no_ways_where_a_lot_is_crowded(self):
        for web in looks.chance_webs(245, 40, 4, 7):
            for d in range(4):
                crowded = any(right_crowded(web, d, lot) for lot in looks.all_lots(web))
                self.assertIs(crowded, not any(right_ways(web, d, ways) for ways in product(*web[1])))


class FewestOuts(unittest.TestCase):

    def fewest(self, web):
        told = fewest_outs(web)
        self.assertIs(type(told), tuple)
        d, ways, lot = told
        self.assertIs(type(d), int)
        self.assertIs(right_ways(web, d, ways), True)
        self.assertTrue(looks.is_ways(web, ways) and max(looks.outs(web, ways)) <= d)
        self.assertIs(d == 0, web[1] == ())
        if d == 0:
            self.assertIsNone(lot)
        else:
            self.assertIs(right_crowded(web, d - 1, lot), True)
            self.assertTrue(is_crowded(web, d - 1, lot))
        return d

    def test_ways_and_crowded_lot_meet(self):
        webs = looks.NAMED_WEBS + looks.great_webs() + looks.chance_webs(246, 100, 10, 30)
        for web in webs + looks.chance_webs(247, 30, 40, 120) + [looks.strip(points, points) for points in (7, 16, 40)]:
            self.fewest(web)

    def test_no_ways_have_fewer(self):
        for web in looks.chance_webs(248, 60, 5, 8):
            self.assertEqual(self.fewest(web), min(max(looks.outs(web, ways)) for ways in product(*web[1])))

    def test_known_webs(self):
        for points in range(2, 17):
            self.assertEqual(self.fewest(looks.full_web(points)), points // 2)
        for points in range(3, 41):
            self.assertEqual(self.fewest(looks.ring_web(points)), 1)
            self.assertEqual(self.fewest((points, looks.ring_web(points)[1] * 2)), 2 if points > 2 else 1)
        for points in range(2, 41):
            self.assertEqual(self.fewest(looks.path_web(points)), 1)
            self.assertEqual(self.fewest(looks.star_web(points)), 1)
        for many in (1, 2, 3, 60, 119, 120):
            self.assertEqual(self.fewest(looks.many_ties(2, many)), -(-many // 2))
            self.assertEqual(self.fewest(looks.many_ties(40, many, (5, 9))), -(-many // 2))
        for points in (1, 2, 40):
            self.assertEqual(fewest_outs((points, ())), (0, (), None))

    def test_forests_are_never_fewer_and_at_most_twice_as_many(self):
        for web in looks.NAMED_WEBS + looks.great_webs() + looks.chance_webs(249, 60, 9, 25):
            d, k = self.fewest(web), fewest_forests(web)[0]
            self.assertTrue(d <= k <= 2 * d)
        self.assertEqual((self.fewest(looks.many_ties(2, 8)), fewest_forests(looks.many_ties(2, 8))[0]), (4, 8))

    def test_at_most_one_more_where_no_two_points_are_tied_twice(self):
        found = set()
        for web in SIMPLE + [untwice(web) for web in looks.chance_webs(250, 80, 12, 60)]:
            d, k = self.fewest(web), fewest_forests(web)[0]
            self.assertIn(k - d, (0, 1))
            found.add(k - d)
        self.assertEqual(found, {0, 1})


class RootedWays(unittest.TestCase):

    def rooted(self, web, k, laying, root):
        ways = rooted_ways(web, k, laying, root)
        self.assertEqual(ways, own_rooted(web, k, laying, root))
        self.assertTrue(looks.is_ways(web, ways))
        outs = looks.outs(web, ways)
        self.assertEqual(outs[root], 0)
        self.assertLessEqual(max(outs), k)

    def test_all_roots(self):
        for web in looks.NAMED_WEBS + looks.chance_webs(25, 60, 9, 20):
            k, laying, lot = fewest_forests(web)
            for root in range(web[0]):
                self.rooted(web, k, laying, root)

    def test_great_webs(self):
        for web in looks.great_webs():
            k, laying, lot = fewest_forests(web)
            for root in {0, 1, web[0] // 2, web[0] - 1}:
                self.rooted(web, k, laying, root)

    def test_told_in_full(self):
        web = (5, ((0, 1), (1, 2), (3, 4), (0, 2), (1, 4)))
        laying = (0, 0, 0, 1, 1)
        self.assertEqual(rooted_ways(web, 2, laying, 0), (1, 2, 4, 2, 4))
        self.assertEqual(rooted_ways(web, 2, laying, 1), (0, 2, 4, 2, 4))
        self.assertEqual(rooted_ways(web, 2, laying, 2), (0, 1, 4, 0, 4))
        self.assertEqual(rooted_ways(web, 2, laying, 3), (1, 2, 4, 2, 4))
        self.assertEqual(rooted_ways(web, 2, laying, 4), (1, 2, 3, 2, 1))

    def test_a_root_alone_and_forests_without_ties(self):
        web = (4, ((1, 2), (2, 3)))
        self.assertEqual(rooted_ways(web, 1, (0, 0), 0), (2, 3))
        self.assertEqual(rooted_ways(web, 1, (0, 0), 3), (1, 2))
        self.assertEqual(rooted_ways(web, 120, (119, 7), 3), (2, 2))
        for points in (1, 40):
            for root in {0, points - 1}:
                self.assertEqual(rooted_ways((points, ()), 0, (), root), ())
                self.assertEqual(rooted_ways((points, ()), 120, (), root), ())


if __name__ == "__main__":
    unittest.main()

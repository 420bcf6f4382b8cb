"""[18] trees side by side, [19] thin partings, [20] as many trees as can stand."""

import random
import unittest
from itertools import product

from fewforests.errors import OnePoint, WebsError
from fewforests.partings import all_partings
from fewforests.standing import most_trees
from fewforests.trees import right_thin, right_trees
from tests import looks


def is_trees(web, k, thing):
    if not looks.is_laying(web, k, thing):
        return False
    return all(len(set(looks.joined(web, looks.lying(thing, forest)))) == 1 for forest in range(k))


def is_thin(web, k, thing):
    return looks.is_parting(web, thing) and looks.between(web, thing) < k * (len(set(thing)) - 1)


def fat_web(chance, points, trees, more):
    """A web of drawn trees and some ties more, in a drawn order: so many trees stand in it at least."""
    ties = []
    for tree in range(trees):
        order = chance.sample(range(points), points)
        ties += [tuple(sorted((order[at], chance.choice(order[:at])))) for at in range(1, points)]
    ties += [tuple(sorted(chance.sample(range(points), 2))) for tie in range(more)]
    return (points, tuple(chance.sample(ties, len(ties))))


def own_most(web):
    """The most trees of a small web: so many that the greatest set of ties that can be laid fills them."""
    k = 0
    while max(bits.bit_count() for bits in looks.layable(web, k + 1)) == (k + 1) * (web[0] - 1):
        k += 1
    return k


def tried_most(web):
    """The most trees of a tiny web, by looking at all layings."""
    k = 0
    while any(is_trees(web, k + 1, thing) for thing in product([None] + list(range(k + 1)), repeat=len(web[1]))):
        k += 1
    return k


class RightTrees(unittest.TestCase):

    def same(self, web, k, thing):
        self.assertIs(right_trees(web, k, thing), is_trees(web, k, thing), (web, k, thing))

    def test_all_tuples_of_small_webs(self):
        right = 0
        for web in looks.chance_webs(18, 40, 4, 5):
            for k in range(4):
                for thing in product([None] + list(range(min(k, 3))), repeat=len(web[1])):
                    self.same(web, k, thing)
                    right += right_trees(web, k, thing)
        self.assertGreater(right, 60)

    def test_right_and_bent(self):
        chance = random.Random(180)
        for turn in range(30):
            web = fat_web(chance, chance.randint(2, 6), chance.randint(0, 3), chance.randint(0, 3))
            k, laying, parting = most_trees(web)
            self.assertIs(right_trees(web, k, laying), True)
            for other in {0, k - 1, k + 1, 120, 121} - {-1}:
                self.same(web, other, laying)
            for thing in looks.bent(laying):
                self.same(web, k, thing)

    def test_a_tie_in_another_forest_less_or_more(self):
        web = (3, ((0, 1), (1, 2), (0, 1), (0, 2), (1, 2)))
        self.assertIs(right_trees(web, 2, (0, 0, 1, 1, None)), True)
        self.assertIs(right_trees(web, 2, (0, 0, 1, None, 1)), True)
        self.assertIs(right_trees(web, 2, (0, 0, 1, 1, 1)), False)
        self.assertIs(right_trees(web, 2, (0, 0, 1, 1, 0)), False)
        self.assertIs(right_trees(web, 2, (0, 0, 1, None, None)), False)
        self.assertIs(right_trees(web, 2, (0, 1, 1, 1, None)), False)
        self.assertIs(right_trees(web, 2, (0, 0, 0, 1, 1)), False)
        self.assertIs(right_trees(web, 3, (0, 0, 1, 1, 2)), False)
        self.assertIs(right_trees(web, 1, (0, 0, 1, 1, None)), False)
        self.assertIs(right_trees(web, 1, (0, 0, None, None, None)), True)
        self.assertIs(right_trees(web, 2, [0, 0, 1, 1, None]), False)
        self.assertIs(right_trees(web, 2, (0, 0, True, 1, None)), False)

    def test_a_ring_beside_points_that_are_not_joined(self):
        web = (4, ((0, 1), (1, 2), (0, 2), (2, 3)))
        self.assertIs(right_trees(web, 1, (0, 0, 0, None)), False)
        self.assertIs(right_trees(web, 1, (0, 0, None, 0)), True)

    def test_no_trees(self):
        self.assertIs(right_trees((3, ((0, 1),)), 0, (None,)), True)
        self.assertIs(right_trees((3, ((0, 1),)), 0, (0,)), False)
        self.assertIs(right_trees((40, ()), 0, ()), True)
        self.assertIs(right_trees((40, ()), 1, ()), False)
        for k in (0, 1, 120):
            self.assertIs(right_trees((1, ()), k, ()), True)
            self.assertIs(right_trees((1, ()), k, (None,)), False)

    def test_a_hundred_and_twenty_trees(self):
        many = looks.many_ties(2, 120)
        self.assertIs(right_trees(many, 120, tuple(range(120))), True)
        self.assertIs(right_trees(many, 120, tuple(range(119)) + (None,)), False)
        self.assertIs(right_trees(many, 120, tuple(range(119)) + (118,)), False)
        self.assertIs(right_trees(many, 119, tuple(range(119)) + (None,)), True)
        self.assertIs(right_trees(looks.many_ties(3, 120), 120, tuple(range(120))), False)

    def test_anything(self):
        for thing in looks.odd_things():
            for web in ((1, ()), (2, ((0, 1),)), (3, ((0, 1), (1, 2))), (2, ((0, 1), (0, 1), (0, 1)))):
                for k in (0, 1, 2, 120):
                    for whole in (thing, (thing,), (thing, None), (0, thing), (0, None, thing)):
                        self.same(web, k, whole)


class RightThin(unittest.TestCase):

    def same(self, web, k, thing):
        self.assertIs(right_thin(web, k, thing), is_thin(web, k, thing), (web, k, thing))

    def test_all_partings_of_small_webs(self):
        right = 0
        for web in looks.chance_webs(19, 60, 6, 14):
            for parting in all_partings(web):
                for k in (0, 1, 2, 3, 4, 120, 121):
                    self.same(web, k, parting)
                    right += right_thin(web, k, parting)
        self.assertGreater(right, 1000)

    def test_right_and_bent(self):
        chance = random.Random(190)
        for turn in range(30):
            web = fat_web(chance, chance.randint(2, 7), chance.randint(0, 3), chance.randint(0, 3))
            k, laying, parting = most_trees(web)
            self.assertIs(right_thin(web, k + 1, parting), True)
            self.assertIs(right_thin(web, k, parting), False)
            for thing in looks.bent(parting):
                self.same(web, k + 1, thing)

    def test_edges(self):
        many = looks.many_ties(2, 120)
        self.assertIs(right_thin(many, 121, (0, 1)), True)
        self.assertIs(right_thin(many, 120, (0, 1)), False)
        self.assertIs(right_thin(many, 121, (0, 0)), False)
        self.assertIs(right_thin((40, ()), 1, tuple(range(40))), True)
        self.assertIs(right_thin((40, ()), 1, (0,) * 40), False)
        self.assertIs(right_thin((40, ()), 0, tuple(range(40))), False)
        self.assertIs(right_thin((1, ()), 121, (0,)), False)
        ring = looks.ring_web(4)
        self.assertIs(right_thin(ring, 2, (0, 1, 2, 3)), True)
        self.assertIs(right_thin(ring, 1, (0, 1, 2, 3)), False)
        self.assertIs(right_thin(ring, 2, (0, 0, 1, 1)), False)
        self.assertIs(right_thin(ring, 2, (0, 1, 1, 2)), True)
        self.assertIs(right_thin(ring, 2, (0, 2, 2, 1)), False)
        self.assertIs(right_thin(ring, 2, (1, 0, 2, 3)), False)
        self.assertIs(right_thin(ring, 2, [0, 1, 2, 3]), False)
        self.assertIs(right_thin(ring, 2, (0, True, 2, 3)), False)
        self.assertIs(right_thin(ring, 2, (0, 1, 2)), False)
        self.assertIs(right_thin(ring, 2, (0, 1, 2, 3, 4)), False)

    def test_anything(self):
        for thing in looks.odd_things():
            for web in ((1, ()), (2, ((0, 1),)), (3, ((0, 1), (1, 2)))):
                for k in (0, 1, 3, 120, 121):
                    for whole in (thing, (thing,), (0, thing), (thing, 1), (0, 1, thing)):
                        self.same(web, k, whole)

    def test_no_trees_where_a_parting_is_thin(self):
        for web in looks.chance_webs(191, 40, 4, 5):
            for k in range(3):
                thin = any(right_thin(web, k, parting) for parting in all_partings(web))
                layings = product([None] + list(range(k)), repeat=len(web[1]))
                self.assertIs(thin, not any(right_trees(web, k, thing) for thing in layings))


class MostTrees(unittest.TestCase):

    def most(self, web):
        told = most_trees(web)
        self.assertIs(type(told), tuple)
        k, laying, parting = told
        self.assertIs(type(k), int)
        self.assertIs(right_trees(web, k, laying), True)
        self.assertIs(right_thin(web, k + 1, parting), True)
        self.assertTrue(is_trees(web, k, laying))
        self.assertTrue(is_thin(web, k + 1, parting))
        return k

    def test_trees_and_thin_parting_meet(self):
        chance = random.Random(20)
        webs = looks.NAMED_WEBS + looks.chance_webs(200, 60, 7, 25) + looks.chance_webs(201, 30, 16, 60)
        for turn in range(60):
            webs.append(fat_web(chance, chance.randint(2, 10), chance.randint(1, 5), chance.randint(0, 8)))
        for web in webs:
            if web[0] > 1:
                self.most(web)

    def test_the_most_of_all(self):
        chance = random.Random(202)
        webs = [web for web in looks.chance_webs(203, 40, 5, 10) if web[0] > 1]
        webs += [fat_web(chance, chance.randint(2, 4), chance.randint(1, 2), chance.randint(0, 3)) for web in range(40)]
        found = {self.most(web) for web in webs}
        self.assertTrue({0, 1, 2, 3} <= found, found)
        for web in webs:
            self.assertEqual(self.most(web), own_most(web))

    def test_the_most_of_tiny_webs_by_looking_at_all_layings(self):
        for web in looks.chance_webs(204, 60, 4, 6):
            if web[0] > 1:
                self.assertEqual(self.most(web), tried_most(web))

    def test_greatest_webs(self):
        chance = random.Random(205)
        for web in looks.great_webs():
            self.most(web)
        for points in (2, 3, 16, 30, 40):
            trees = 120 // (points - 1)
            self.assertEqual(self.most(fat_web(chance, points, trees, 120 - trees * (points - 1))), trees)
            self.assertGreaterEqual(self.most(fat_web(chance, points, trees - 1, 5)), trees - 1)

    def test_a_thin_place_in_a_fat_web(self):
        thick = looks.full_web(6)[1]
        beside = tuple((6 + a, 6 + b) for a, b in thick)
        for bridges in range(4):
            self.assertEqual(self.most((12, thick + beside + ((2, 8),) * bridges)), min(bridges, 3))

    def test_known_webs(self):
        for points in range(2, 17):
            self.assertEqual(self.most(looks.full_web(points)), points // 2)
        for points in range(3, 41):
            self.assertEqual(self.most(looks.ring_web(points)), 1)
            self.assertEqual(self.most((points, looks.ring_web(points)[1] * 2)), 2 + (points == 3))
        for points in range(2, 41):
            self.assertEqual(self.most(looks.path_web(points)), 1)
            self.assertEqual(self.most(looks.star_web(points)), 1)
            self.assertEqual(self.most((points, ())), 0)
        for many in (1, 2, 3, 60, 119, 120):
            self.assertEqual(self.most(looks.many_ties(2, many)), many)
            self.assertEqual(self.most(looks.many_ties(3, many)), 0)
            self.assertEqual(self.most(looks.many_ties(40, many, (0, 39))), 0)
        self.assertEqual(self.most((4, ((0, 1), (0, 1), (2, 3), (2, 3)))), 0)

    def test_one_point(self):
        with self.assertRaises(OnePoint) as caught:
            most_trees((1, ()))
        self.assertIs(type(caught.exception), OnePoint)
        self.assertIsInstance(caught.exception, WebsError)


if __name__ == "__main__":
    unittest.main()

"""[28], [29] even ways: what even_ways tells."""

import random
import unittest

from fewforests.even import even_ways
from fewforests.outward import fewest_outs
from fewforests.shares import excess_above, right_even
from tests import looks
from tests.test_shares import excesses, is_even_paper, keeping_ways


class EvenWays(unittest.TestCase):

    def even(self, web, root):
        told = even_ways(web, root)
        self.assertIs(type(told), tuple)
        self.assertIs(right_even(web, root, told), True, (web, root, told))
        self.assertTrue(is_even_paper(web, root, told), (web, root, told))
        return told

    def all_roots(self, web):
        for root in [None] + list(range(web[0])):
            self.even(web, root)
        self.same_greatest_outs(web)

    def same_greatest_outs(self, web):
        self.assertEqual(max(looks.outs(web, even_ways(web, None)[0])), fewest_outs(web)[0])

    def test_let_by_with_each_root(self):
        for web in looks.NAMED_WEBS + looks.chance_webs(280, 40, 8, 20) + looks.chance_webs(281, 8, 16, 60):
            self.all_roots(web)

    def test_the_least_excess_of_all_ways(self):
        asked = 0
        for web in looks.chance_webs(282, 50, 5, 9) + [looks.star_web(6), looks.ring_web(6), looks.full_web(4)]:
            for root in [None] + list(range(web[0])):
                least = [min(column) for column in zip(*[excesses(web, ways) for ways in keeping_ways(web, root)])]
                ways = self.even(web, root)[0]
                self.assertEqual(excesses(web, ways), least)
                self.assertEqual([excess_above(web, ways, q) for q in range(len(least))], least)
                asked += 1
        self.assertGreater(asked, 150)

    def test_ties_that_must_be_turned_along_a_way(self):
        chance = random.Random(283)
        for points in (6, 9, 12):
            for turn in range(10):
                # A crowd of ties at one end of a path is made even over the whole path.
                crowd = ((0, 1),) * chance.randint(3, 9)
                web = looks.turned(chance, (points, crowd + looks.path_web(points)[1]))
                ways = self.even(web, None)[0]
                self.assertEqual(excess_above(web, ways, 1), len(crowd) - 1)
                self.all_roots(web)

    def test_great_webs(self):
        for web in looks.great_webs():
            self.same_greatest_outs(web)
            for root in (None, 0, 7, web[0] // 2, web[0] - 1):
                if root is None or root < web[0]:
                    self.even(web, root)

    def test_each_root_of_a_web_with_forty_points(self):
        chance = random.Random(284)
        self.all_roots(looks.chance_web(chance, 40, 120))

    def test_known_webs(self):
        many = looks.many_ties(2, 120)
        self.assertEqual(looks.outs(many, self.even(many, None)[0]), [60, 60])
        self.assertEqual(self.even(many, 0), ((1,) * 120, ((1,),) * 119))
        self.assertEqual(self.even(many, 1), ((0,) * 120, ((0,),) * 119))
        odd = looks.many_ties(2, 119)
        self.assertEqual(sorted(looks.outs(odd, self.even(odd, None)[0])), [59, 60])
        for points in (3, 8, 40):
            ring, star = looks.ring_web(points), looks.star_web(points)
            self.assertEqual(looks.outs(ring, self.even(ring, None)[0]), [1] * points)
            self.assertEqual(self.even(ring, None)[1], ())
            self.assertEqual(max(looks.outs(ring, self.even(ring, 1)[0])), 2)
            # The root has all ties: each goes out of another point.
            self.assertEqual(self.even(star, 0), (tuple(range(1, points)), ()))
            self.assertEqual(max(looks.outs(star, self.even(star, None)[0])), 1)
            self.assertEqual(max(looks.outs(star, self.even(star, 1)[0])), 1)
        for points in (3, 5, 7, 9):
            full = looks.full_web(points)
            self.assertEqual(looks.outs(full, self.even(full, None)[0]), [(points - 1) // 2] * points)
            self.assertEqual(sum(looks.outs(full, self.even(full, 0)[0])), len(full[1]))

    def test_no_ties_and_a_root_without_ties(self):
        for points in (1, 2, 40):
            for root in (None, 0, points - 1):
                self.assertEqual(even_ways((points, ()), root), ((), ()))
        web = (3, ((0, 1),) * 5)
        self.assertEqual(sorted(looks.outs(web, self.even(web, 2)[0])), [0, 2, 3])
        self.assertEqual(looks.outs(web, self.even(web, 0)[0]), [0, 5, 0])


if __name__ == "__main__":
    unittest.main()

"""[13] the shortest row of pushes, or a full lot."""

import random
import unittest

from fewforests.pushing import push_tie
from fewforests.rows import pushed_laying, right_levels, right_row
from tests import looks


class PushTie(unittest.TestCase):

    def told(self, web, k, laying, tie):
        """Goes over what is told, and tells how many entries the row has, None where there is none."""
        told = push_tie(web, k, laying, tie)
        rings = looks.own_rings(web, k, laying)
        counts, shortest = looks.push_counts(tie, rings)
        self.assertIs(type(told), tuple)
        if told[0] == "laid":
            word, row, levels = told
            self.assertEqual(len(row), shortest)
            self.assertTrue(looks.is_row(web, k, laying, tie, row, rings))
            self.assertTrue(looks.is_levels(web, laying, tie, len(row), levels, rings))
            self.assertTrue(right_row(web, k, laying, tie, row))
            self.assertTrue(right_levels(web, k, laying, tie, len(row), levels))
            self.assertTrue(looks.is_laying(web, k, pushed_laying(laying, row)))
        else:
            word, lot = told
            self.assertEqual(word, "full")
            self.assertIsNone(shortest)
            self.is_tight_around(web, k, laying, tie, lot)
        return shortest

    def is_tight_around(self, web, k, laying, tie, lot):
        self.assertTrue(looks.is_lot(web, lot))
        self.assertTrue(set(web[1][tie]) <= set(lot))
        for forest in range(k):
            inside = [n for n in looks.lying(laying, forest) if set(web[1][n]) <= set(lot)]
            self.assertEqual(len(inside), len(lot) - 1)
        self.assertTrue(looks.is_full(web, k, lot))

    def test_every_left_out_tie_of_drawn_layings(self):
        chance = random.Random(13)
        lengths = set()
        for web in looks.NAMED_WEBS + looks.chance_webs(130, 150, 7, 16):
            for k in (0, 1, 2, 3):
                laying = looks.chance_laying(chance, web, k)
                for tie in range(len(laying)):
                    if laying[tie] is None:
                        lengths.add(self.told(web, k, laying, tie))
        self.assertTrue({None, 1, 2, 3} <= lengths, lengths)

    def test_a_tie_left_out_of_the_fullest_layings_of_great_webs(self):
        chance = random.Random(131)
        for web in looks.great_webs():
            for k in (0, 1, 2, 3):
                laying = looks.chance_laying(chance, web, k)
                out = [tie for tie in range(len(laying)) if laying[tie] is None]
                for tie in chance.sample(out, min(2, len(out))):
                    self.told(web, k, laying, tie)

    def test_no_forest(self):
        self.assertEqual(push_tie((4, ((1, 3), (0, 2))), 0, (None, None), 0), ("full", (1, 3)))
        self.assertEqual(push_tie((40, ((0, 39),) * 120), 0, (None,) * 120, 119), ("full", (0, 39)))

    def test_one_forest(self):
        web = looks.ring_web(5)
        self.assertEqual(push_tie(web, 1, (0, 0, 0, 0, None), 4), ("full", (0, 1, 2, 3, 4)))
        told = push_tie(web, 1, (0, 0, None, 0, None), 4)
        self.assertEqual(told[:2], ("laid", ((4, 0),)))

    def test_free_at_once(self):
        told = push_tie((2, ((0, 1),)), 1, (None,), 0)
        self.assertEqual(told, ("laid", ((0, 0),), (0,)))

    def test_many_ties_between_two_points(self):
        web = looks.many_ties(40, 120, (5, 6))
        laying = tuple(range(119)) + (None,)
        self.assertEqual(push_tie(web, 119, laying, 119), ("full", (5, 6)))
        told = push_tie(web, 120, laying, 119)
        self.assertEqual(told[:2], ("laid", ((119, 119),)))
        self.assertTrue(right_levels(web, 120, laying, 119, 1, told[2]))

    def test_long_rows_in_strips(self):
        longest = 0
        for points in (4, 7, 10, 15, 20, 30, 40):
            for order in range(12):
                web = looks.strip(points, order)
                laying = (None,) * len(web[1])
                for tie in range(len(web[1])):
                    told = push_tie(web, 2, laying, tie)
                    self.assertEqual(told[0], "laid")
                    if tie == len(web[1]) - 1:
                        longest = max(longest, self.told(web, 2, laying, tie))
                    laying = pushed_laying(laying, told[1])
                self.assertTrue(looks.is_laying(web, 2, laying))
        self.assertGreater(longest, 12)

    def test_one_tie_more_than_a_strip_holds(self):
        for points in (4, 9, 40):
            web = looks.strip(points, points)
            laying = (None,) * len(web[1])
            for tie in range(len(web[1])):
                laying = pushed_laying(laying, push_tie(web, 2, laying, tie)[1])
            more = (points, web[1] + ((points - 2, points - 1),))
            self.assertIsNone(self.told(more, 2, laying + (None,), len(web[1])))


if __name__ == "__main__":
    unittest.main()

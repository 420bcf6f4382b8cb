"""[16] the ties that all layings with the most ties laid lay, and for each other tie one that leaves it out."""

import unittest

from fewforests.bounds import right_needed
from fewforests.fewest import fewest_forests, fill_forests
from fewforests.needed import needed_ties
from tests import looks

NUMBERS = (0, 1, 2, 3, 4, 39, 119, 120)


def always_laid(web, k):
    """For each tie of a small web whether all sets with the most ties that can be laid have it."""
    sets = looks.layable(web, k)
    most = max(bits.bit_count() for bits in sets)
    greatest = [bits for bits in sets if bits.bit_count() == most]
    return [all(looks.has_tie(bits, tie) for bits in greatest) for tie in range(len(web[1]))]


class NeededTies(unittest.TestCase):

    def needed(self, web, k):
        """Goes over what is told, and tells which ties all fullest layings lay."""
        told = needed_ties(web, k)
        self.assertIs(right_needed(web, k, told), True)
        self.assertTrue(looks.is_needed(web, k, told))
        return [other is None for other in told[2]]

    def test_what_is_told_is_let_by(self):
        for web in looks.NAMED_WEBS + looks.chance_webs(160, 60, 7, 18) + looks.chance_webs(161, 20, 16, 60):
            for k in NUMBERS:
                self.needed(web, k)

    def test_up_to_forty_points_and_all_ties(self):
        for web in looks.great_webs() + [looks.strip(points, points) for points in (16, 40)]:
            fewest = fewest_forests(web)[0]
            for k in sorted({0, 1, 2, 3, max(0, fewest - 1), fewest}):
                self.needed(web, k)

    def test_none_just_where_all_fullest_layings_lay_it(self):
        found = set()
        for web in looks.chance_webs(162, 60, 6, 9):
            for k in range(4):
                needed = self.needed(web, k)
                self.assertEqual(needed, always_laid(web, k))
                found |= set(needed)
        self.assertEqual(found, {True, False})

    def test_the_same_by_looking_at_all_layings(self):
        for web in looks.chance_webs(163, 40, 4, 5):
            for k in range(3):
                layings = looks.fullest(web, k)
                never_out = [all(laying[tie] is not None for laying in layings) for tie in range(len(web[1]))]
                self.assertEqual(self.needed(web, k), never_out)

    def test_some_ties_needed_and_some_not(self):
        web = (5, ((0, 1), (1, 2), (0, 2), (2, 3), (3, 4)))
        self.assertEqual(self.needed(web, 1), [False, False, False, True, True])
        chained = (7, looks.full_web(4)[1] + ((3, 4), (4, 5), (5, 6), (4, 6), (4, 6), (5, 6)))
        self.assertEqual(self.needed(chained, 1), [False] * 6 + [True] + [False] * 5)
        self.assertEqual(self.needed(chained, 2), [True] * 7 + [False] * 5)

    def test_no_forest_leaves_all_out(self):
        for web in looks.NAMED_WEBS + looks.great_webs():
            self.assertEqual(self.needed(web, 0), [False] * len(web[1]))

    def test_more_forests_than_needed_lay_all(self):
        for web in looks.NAMED_WEBS + looks.great_webs():
            fewest = fewest_forests(web)[0]
            for k in sorted({fewest, min(120, fewest + 1), 120}):
                laying, parting, others = needed_ties(web, k)
                self.assertEqual(others, (None,) * len(web[1]))
                self.assertNotIn(None, laying)

    def test_known_webs(self):
        self.assertEqual(needed_ties((1, ()), 0), ((), (0,), ()))
        self.assertEqual(needed_ties((1, ()), 120), ((), (0,), ()))
        for points in range(3, 41):
            self.assertEqual(self.needed(looks.ring_web(points), 1), [False] * points)
            self.assertEqual(self.needed(looks.path_web(points), 1), [True] * (points - 1))
            self.assertEqual(self.needed(looks.star_web(points), 1), [True] * (points - 1))
        for points in range(3, 9):
            ties = points * (points - 1) // 2
            for k in range(points // 2 + 2):
                self.assertEqual(self.needed(looks.full_web(points), k), [ties <= k * (points - 1)] * ties)
        for many in (1, 2, 60, 120):
            for k in (many - 1, many, many // 2):
                if 0 <= k <= 120:
                    self.assertEqual(self.needed(looks.many_ties(2, many), k), [k >= many] * many)
        self.assertEqual(self.needed((40, ((3, 9),) * 119 + ((0, 39),)), 118), [False] * 119 + [True])

    def test_as_many_are_laid_as_fill_forests_lays(self):
        for web in looks.chance_webs(164, 30, 7, 18):
            for k in range(4):
                self.assertEqual(looks.laid(needed_ties(web, k)[0]), looks.laid(fill_forests(web, k)[0]))


if __name__ == "__main__":
    unittest.main()

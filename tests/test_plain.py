"""[10] first fit."""

import unittest

from fewforests.plain import first_fit
from tests import looks


class FirstFit(unittest.TestCase):

    def fits(self, web, k):
        told = first_fit(web, k)
        self.assertTrue(looks.is_laying(web, k, told))
        for tie, entry in enumerate(told):
            ahead = told[:tie]
            for forest in range(k if entry is None else entry):
                self.assertFalse(looks.is_forest(web, looks.lying(ahead, forest) + [tie]))

    def test_each_tie_in_the_first_forest_in_which_it_is_free(self):
        for web in looks.NAMED_WEBS + looks.chance_webs(10, 100, 7, 16):
            for k in (0, 1, 2, 3, 5):
                self.fits(web, k)

    def test_great_webs(self):
        for web in looks.great_webs()[2:]:
            for k in (1, 3):
                self.fits(web, k)

    def test_told_in_full(self):
        web = (4, ((0, 1), (0, 1), (1, 2), (0, 2), (2, 3), (0, 3), (0, 1)))
        self.assertEqual(first_fit(web, 0), (None,) * 7)
        self.assertEqual(first_fit(web, 1), (0, None, 0, None, 0, None, None))
        self.assertEqual(first_fit(web, 2), (0, 1, 0, 1, 0, 1, None))
        self.assertEqual(first_fit(web, 120), (0, 1, 0, 1, 0, 1, 2))

    def test_many_ties_between_two_points(self):
        for many in (1, 2, 119, 120):
            for k in (0, 1, 60, 119, 120):
                laid = min(many, k)
                told = first_fit(looks.many_ties(40, many, (3, 39)), k)
                self.assertEqual(told, tuple(range(laid)) + (None,) * (many - laid))

    def test_no_ties(self):
        for k in (0, 1, 120):
            self.assertEqual(first_fit((1, ()), k), ())
            self.assertEqual(first_fit((40, ()), k), ())

    def test_no_tie_is_moved_though_pushes_would_lay_more(self):
        web = (4, ((0, 1), (2, 3), (1, 2), (0, 2), (1, 3), (0, 3)))
        self.assertEqual(first_fit(web, 2), (0, 0, 0, 1, 1, 1))
        web = (4, ((0, 1), (0, 2), (0, 3), (1, 2), (1, 3), (2, 3)))
        self.assertEqual(first_fit(web, 2), (0, 0, 0, 1, 1, None))


if __name__ == "__main__":
    unittest.main()

"""[22] the cheapest ties that can be laid, [23] what stands in for each."""

import random
import unittest

from fewforests.cheapest import cheapest_ties, stand_ins
from fewforests.errors import TooGreat
from fewforests.fewest import fewest_forests, fill_forests
from fewforests.prices import right_cheapest
from tests import looks

NUMBERS = (0, 1, 2, 3, 39, 119, 120)


def laid_bits(laying):
    return sum(1 << tie for tie, forest in enumerate(laying) if forest is not None)


def set_stand_ins(web, k, prices):
    """For each tie of a small web, by its cheapest sets with and without it."""
    cheapest = looks.cheapest_set(web, k, prices)
    told = []
    for tie in range(len(web[1])):
        if not looks.has_tie(cheapest, tie):
            told.append(None)
            continue
        left = [number for number in range(len(web[1])) if number != tie]
        rest = (web[0], tuple(web[1][number] for number in left))
        bits = looks.cheapest_set(rest, k, tuple(prices[number] for number in left))
        laid = [number for at, number in enumerate(left) if looks.has_tie(bits, at)]
        new = [number for number in laid if not looks.has_tie(cheapest, number)]
        told.append(new[0] if new else -1)
    return tuple(told)


def asked_stand_ins(web, k, prices):
    """For each tie of any web, by asking cheapest_ties of the web without it."""
    laying = cheapest_ties(web, k, prices)[0]
    told = []
    for tie in range(len(web[1])):
        left = [number for number in range(len(web[1])) if number != tie]
        rest = (web[0], tuple(web[1][number] for number in left))
        other = cheapest_ties(rest, k, tuple(prices[number] for number in left))[0]
        new = [number for at, number in enumerate(left) if other[at] is not None and laying[number] is None]
        told.append(None if laying[tie] is None else new[0] if new else -1)
    return tuple(told)


class CheapestTies(unittest.TestCase):

    def cheapest(self, web, k, prices):
        told = cheapest_ties(web, k, prices)
        self.assertIs(right_cheapest(web, k, prices, told), True)
        self.assertTrue(looks.is_cheapest(web, k, prices, told))
        return told[0]

    def test_what_is_told_is_let_by(self):
        chance = random.Random(220)
        for web in looks.NAMED_WEBS + looks.chance_webs(221, 40, 8, 20) + looks.chance_webs(222, 10, 16, 60):
            for k in NUMBERS:
                for most in (0, 2, 10 ** 9):
                    laying = self.cheapest(web, k, looks.chance_prices(chance, web, most))
                    self.assertEqual(looks.laid(laying), looks.laid(fill_forests(web, k)[0]))

    def test_great_webs(self):
        chance = random.Random(223)
        for web in looks.great_webs():
            fewest = fewest_forests(web)[0]
            for k in sorted({0, 1, 2, 3, max(0, fewest - 1), fewest}):
                self.cheapest(web, k, looks.chance_prices(chance, web, 30))

    def test_none_dearer_one_by_one_than_any_that_can_be_laid(self):
        chance = random.Random(224)
        for web in looks.chance_webs(225, 40, 6, 8):
            for k in range(4):
                prices = looks.chance_prices(chance, web, chance.choice((0, 1, 4, 10 ** 9)))
                order = looks.by_price(prices)
                laying = self.cheapest(web, k, prices)
                told = [rank for rank, tie in enumerate(order) if laying[tie] is not None]
                for bits in looks.layable(web, k):
                    other = [rank for rank, tie in enumerate(order) if looks.has_tie(bits, tie)]
                    self.assertLessEqual(len(other), len(told))
                    self.assertTrue(all(mine <= its for mine, its in zip(told, other)))

    def test_the_cheapest_set(self):
        chance = random.Random(226)
        for web in looks.chance_webs(227, 60, 6, 9):
            for k in range(4):
                prices = looks.chance_prices(chance, web, chance.choice((0, 1, 5)))
                self.assertEqual(laid_bits(self.cheapest(web, k, prices)), looks.cheapest_set(web, k, prices))

    def test_like_prices_and_prices_at_the_edges(self):
        ring = looks.ring_web(5)
        for price in (0, 7, 10 ** 9):
            self.assertEqual(cheapest_ties(ring, 1, (price,) * 5)[0], (0, 0, 0, 0, None))
        self.assertEqual(cheapest_ties(ring, 1, (10 ** 9, 0, 0, 0, 0))[0], (None, 0, 0, 0, 0))
        self.assertEqual(cheapest_ties(ring, 1, (0, 10 ** 9, 10 ** 9 - 1, 0, 10 ** 9))[0], (0, 0, 0, 0, None))
        self.assertEqual(cheapest_ties(ring, 1, (0, 10 ** 9, 5, 0, 10 ** 9 - 1))[0], (0, None, 0, 0, 0))
        many = looks.many_ties(2, 120)
        laying = self.cheapest(many, 119, (10 ** 9,) * 60 + (0,) * 60)
        self.assertEqual([tie for tie in range(120) if laying[tie] is None], [59])

    def test_no_forests(self):
        for web in looks.NAMED_WEBS + looks.great_webs():
            laying, reasons = cheapest_ties(web, 0, (3,) * len(web[1]))
            self.assertEqual(laying, (None,) * len(web[1]))
            self.assertNotIn(None, reasons)

    def test_more_forests_than_needed(self):
        for web in looks.NAMED_WEBS + looks.great_webs():
            fewest = fewest_forests(web)[0]
            for k in {fewest, min(120, fewest + 1), 120}:
                laying, reasons = cheapest_ties(web, k, tuple(range(len(web[1])))[::-1])
                self.assertTrue(looks.is_laying(web, k, laying))
                self.assertNotIn(None, laying)
                self.assertEqual(reasons, (None,) * len(web[1]))


class StandIns(unittest.TestCase):

    def test_small_webs(self):
        chance = random.Random(23)
        found = set()
        for web in looks.chance_webs(230, 50, 6, 8):
            for k in range(4):
                prices = looks.chance_prices(chance, web, chance.choice((0, 1, 5, 10 ** 9)))
                told = stand_ins(web, k, prices)
                self.assertEqual(told, set_stand_ins(web, k, prices))
                self.assertTrue(type(told) is tuple and all(entry is None or type(entry) is int for entry in told))
                found |= set(told)
        self.assertTrue({None, -1, 0, 1, 2, 3} <= found)

    def test_webs_with_up_to_thirty_ties(self):
        chance = random.Random(231)
        webs = [looks.chance_web(chance, points, ties) for points, ties in
                ((6, 30), (9, 30), (16, 30), (40, 30), (10, 29), (8, 20))]
        for web in webs + [looks.many_ties(2, 30), looks.ring_web(30), looks.full_web(8)]:
            for k in (0, 1, 2, 3, 120):
                prices = looks.chance_prices(chance, web, 20)
                self.assertEqual(stand_ins(web, k, prices), asked_stand_ins(web, k, prices))

    def test_told_in_full(self):
        ring = looks.ring_web(4)
        self.assertEqual(stand_ins(ring, 1, (5, 9, 1, 2)), (1, None, 1, 1))
        self.assertEqual(stand_ins(ring, 2, (5, 9, 1, 2)), (-1, -1, -1, -1))
        self.assertEqual(stand_ins(ring, 0, (5, 9, 1, 2)), (None,) * 4)
        self.assertEqual(stand_ins((3, ((0, 1), (0, 1), (1, 2))), 1, (4, 3, 0)), (None, 0, -1))
        self.assertEqual(stand_ins((2, ((0, 1),) * 4), 2, (1, 1, 1, 1)), (2, 2, None, None))
        self.assertEqual(stand_ins((2, ((0, 1),) * 4), 2, (4, 3, 2, 1)), (None, None, 1, 1))
        self.assertEqual(stand_ins((1, ()), 3, ()), ())

    def test_thirty_ties_and_one_more(self):
        self.assertEqual(stand_ins(looks.many_ties(2, 30), 29, (0,) * 30), (29,) * 29 + (None,))
        self.assertEqual(stand_ins(looks.many_ties(40, 30), 120, (0,) * 30), (-1,) * 30)
        for ties in (31, 32, 60, 120):
            for k in (0, 1, 120):
                with self.assertRaises(TooGreat) as caught:
                    stand_ins(looks.many_ties(2, ties), k, (0,) * ties)
                self.assertIs(type(caught.exception), TooGreat)


if __name__ == "__main__":
    unittest.main()

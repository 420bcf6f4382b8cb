"""[21] prices, cheaper ties and tight lots, [22] what right_cheapest lets by."""

import random
import unittest
from itertools import product

from fewforests.prices import right_cheapest
from tests import looks


def paper_of(web, k, prices, laying):
    """A right paper with this laying of a small web, by looking at all lots; None where there is none."""
    order = looks.by_price(prices)
    reasons = []
    for tie, forest in enumerate(laying):
        if forest is not None:
            reasons.append(None)
            continue
        lots = [lot for lot in looks.all_lots(web) if set(web[1][tie]) <= set(lot)]
        tight = [lot for lot in lots if looks.is_tight(web, k, laying, lot, order[:order.index(tie)])]
        if not tight:
            return None
        reasons.append(tight[len(reasons) % len(tight)])
    return (laying, tuple(reasons))


def cheapest_layings(web, k, prices):
    """All layings of the cheapest ties of a small web."""
    bits = looks.cheapest_set(web, k, prices)
    choices = [range(k) if looks.has_tie(bits, tie) else (None,) for tie in range(len(web[1]))]
    return [laying for laying in product(*choices) if looks.is_laying(web, k, laying)]


class RightCheapest(unittest.TestCase):

    def same(self, web, k, prices, thing):
        told = right_cheapest(web, k, prices, thing)
        self.assertIs(told, looks.is_cheapest(web, k, prices, thing), (web, k, prices, thing))
        return told

    def test_right_papers_and_bent_ones(self):
        chance = random.Random(22)
        right = wrong = 0
        for web in looks.chance_webs(220, 40, 4, 6):
            for k in range(3):
                prices = looks.chance_prices(chance, web, chance.choice((0, 1, 3, 10 ** 9)))
                paper = paper_of(web, k, prices, chance.choice(cheapest_layings(web, k, prices)))
                self.assertIs(right_cheapest(web, k, prices, paper), True)
                for thing in looks.bent(paper):
                    told = self.same(web, k, prices, thing)
                    right, wrong = right + told, wrong + (not told)
        self.assertGreater(right, 100)
        self.assertGreater(wrong, 5000)

    def test_all_lots_as_reasons(self):
        chance = random.Random(221)
        for web in looks.chance_webs(222, 30, 5, 7):
            for k in range(3):
                prices = looks.chance_prices(chance, web, 3)
                laying, reasons = paper_of(web, k, prices, cheapest_layings(web, k, prices)[0])
                for tie in range(len(laying)):
                    for lot in looks.all_lots(web) + [None, ()]:
                        self.same(web, k, prices, (laying, reasons[:tie] + (lot,) + reasons[tie + 1:]))

    def test_just_the_cheapest_ties_have_papers(self):
        chance = random.Random(223)
        papers = 0
        for web in looks.chance_webs(224, 25, 4, 5):
            for k in range(3):
                prices = looks.chance_prices(chance, web, 2)
                cheapest = looks.cheapest_set(web, k, prices)
                for laying in product([None] + list(range(k)), repeat=len(web[1])):
                    if looks.is_laying(web, k, laying):
                        bits = sum(1 << tie for tie, forest in enumerate(laying) if forest is not None)
                        paper = paper_of(web, k, prices, laying)
                        self.assertIs(paper is not None, bits == cheapest)
                        papers += paper is not None and self.same(web, k, prices, paper)
        self.assertGreater(papers, 50)

    def test_a_right_one_bent_by_hand(self):
        web, prices = (4, ((0, 1), (1, 2), (0, 2), (2, 3))), (5, 2, 9, 1)
        laying, lot = (0, 0, None, 0), (0, 1, 2)
        self.assertIs(right_cheapest(web, 1, prices, (laying, (None, None, lot, None))), True)
        self.assertIs(right_cheapest(web, 1, prices, (laying, (None, None, (0, 1, 2, 3), None))), True)
        for reason in (None, (), (0, 1), (0, 2), (1, 2), (0, 2, 3), (0, 1, 3), (0, 1, 2, 4), (0, 2, 1), [0, 1, 2],
                       (0, True, 2), (0, 1, 1, 2), (-1, 0, 1, 2), 7, "012", {0: 1}, (0, 1, None)):
            self.assertIs(right_cheapest(web, 1, prices, (laying, (None, None, reason, None))), False)
        self.assertIs(right_cheapest(web, 1, prices, (laying, (None, None, lot, lot))), False)
        self.assertIs(right_cheapest(web, 1, prices, (laying, (lot, None, lot, None))), False)
        self.assertIs(right_cheapest(web, 1, prices, (laying, (None, None, lot))), False)
        self.assertIs(right_cheapest(web, 1, prices, (laying, (None, None, lot, None, None))), False)
        self.assertIs(right_cheapest(web, 1, prices, (laying, [None, None, lot, None])), False)
        self.assertIs(right_cheapest(web, 1, prices, [laying, (None, None, lot, None)]), False)
        self.assertIs(right_cheapest(web, 1, prices, ((0, 0, 0, 0), (None,) * 4)), False)
        self.assertIs(right_cheapest(web, 1, prices, ((0, 0, None, None), (None, None, lot, (2, 3)))), False)
        self.assertIs(right_cheapest(web, 2, prices, (laying, (None, None, lot, None))), False)
        self.assertIs(right_cheapest(web, 2, prices, ((0, 0, 1, 0), (None,) * 4)), True)

    def test_tight_only_with_dearer_ties(self):
        web, lot = looks.ring_web(3), (0, 1, 2)
        paper = ((0, None, 0), (None, lot, None))
        self.assertIs(right_cheapest(web, 1, (1, 3, 2), paper), True)
        self.assertIs(right_cheapest(web, 1, (1, 2, 3), paper), False)
        self.assertIs(right_cheapest(web, 1, (3, 2, 1), paper), False)
        self.assertIs(right_cheapest(web, 1, (0, 10 ** 9, 10 ** 9 - 1), paper), True)

    def test_the_number_decides_between_like_prices(self):
        web, lot = looks.ring_web(3), (0, 1, 2)
        for price in (0, 4, 10 ** 9):
            prices = (price,) * 3
            self.assertIs(right_cheapest(web, 1, prices, ((0, 0, None), (None, None, lot))), True)
            self.assertIs(right_cheapest(web, 1, prices, ((0, None, 0), (None, lot, None))), False)
            self.assertIs(right_cheapest(web, 1, prices, ((None, 0, 0), (lot, None, None))), False)
        self.assertIs(right_cheapest(web, 1, (2, 2, 1), ((0, None, 0), (None, lot, None))), True)
        self.assertIs(right_cheapest(web, 1, (2, 2, 1), ((None, 0, 0), (lot, None, None))), False)

    def test_tight_in_each_forest(self):
        web = (3, ((0, 1), (0, 1), (1, 2), (0, 1)))
        self.assertIs(right_cheapest(web, 2, (0, 0, 0, 1), ((0, 1, 0, None), (None, None, None, (0, 1)))), True)
        self.assertIs(right_cheapest(web, 2, (0, 0, 0, 1), ((0, 1, 0, None), (None, None, None, (0, 1, 2)))), False)
        self.assertIs(right_cheapest(web, 2, (0, 2, 0, 1), ((0, 1, 0, None), (None, None, None, (0, 1)))), False)

    def test_no_forests(self):
        web = (4, ((0, 1), (1, 3)))
        for one, other in product(looks.all_lots(web), repeat=2):
            right = {0, 1} <= set(one) and {1, 3} <= set(other)
            self.assertIs(right_cheapest(web, 0, (7, 0), ((None, None), (one, other))), right)
        self.assertIs(right_cheapest(web, 0, (7, 0), ((None, None), (None, (1, 3)))), False)
        self.assertIs(right_cheapest(web, 0, (7, 0), ((0, None), (None, (1, 3)))), False)
        for k in (0, 1, 120):
            self.assertIs(right_cheapest((1, ()), k, (), ((), ())), True)
            self.assertIs(right_cheapest((40, ()), k, (), ((), ())), True)
            self.assertIs(right_cheapest((40, ()), k, (), ((), (None,))), False)

    def test_great_webs(self):
        many = looks.many_ties(2, 120)
        laying = tuple(range(119)) + (None,)
        prices = tuple(range(119)) + (10 ** 9,)
        self.assertIs(right_cheapest(many, 119, prices, (laying, (None,) * 119 + ((0, 1),))), True)
        self.assertIs(right_cheapest(many, 119, prices[::-1], (laying, (None,) * 119 + ((0, 1),))), False)
        self.assertIs(right_cheapest(many, 120, prices, (laying, (None,) * 119 + ((0, 1),))), False)
        ring = looks.ring_web(40)
        paper = ((0,) * 39 + (None,), (None,) * 39 + (tuple(range(40)),))
        self.assertIs(right_cheapest(ring, 1, (3,) * 40, paper), True)
        self.assertIs(right_cheapest(ring, 1, (4,) + (3,) * 39, paper), False)

    def test_anything(self):
        web, laying, lot = (3, ((0, 1), (0, 1), (1, 2))), (0, None, 0), (0, 1)
        for thing in looks.odd_things():
            for k in (0, 1, 120):
                for whole in (thing, (thing,), (thing, thing), (laying, thing), (thing, (None, lot, None)),
                              (laying, (None, thing, None)), (laying, (thing, lot, None)),
                              (laying, (None, (thing,), None)), (laying, (None, (0, thing), None)),
                              ((0, thing, 0), (None, lot, None)), (laying, (None, lot, None), thing)):
                    self.same(web, k, (1, 1, 0), whole)
                    self.same((1, ()), k, (), whole)


if __name__ == "__main__":
    unittest.main()

"""[28] the excess of ways, [29] what right_even lets by."""

import random
import unittest
from itertools import product

from fewforests.shares import excess_above, right_even
from tests import looks


def is_even_paper(web, root, thing):
    if type(thing) is not tuple or len(thing) != 2 or not looks.is_ways(web, thing[0]):
        return False
    ways, lots = thing
    outs = looks.outs(web, ways)
    if root is not None and outs[root] > 0:
        return False
    if type(lots) is not tuple or len(lots) != len(range(1, max(outs))):
        return False
    for q, lot in zip(range(1, max(outs)), lots):
        if not looks.is_lot(web, lot):
            return False
        if not {point for point in range(web[0]) if outs[point] > q} <= set(lot):
            return False
        if any(outs[point] < q for point in lot):
            return False
        leading = {sum(tie) - point for tie, point in zip(web[1], ways) if point in lot}
        if not leading <= set(lot) | {root}:
            return False
    return True


def paper_of(web, root, ways):
    """The paper of these ways with the least lots, by going on from the points with more than q outs."""
    outs = looks.outs(web, ways)
    lots = []
    for q in range(1, max(outs)):
        lot = [point for point in range(web[0]) if outs[point] > q]
        for point in lot:
            leading = [sum(tie) - point for tie, out in zip(web[1], ways) if out == point]
            lot += [end for end in dict.fromkeys(leading) if end not in lot and end != root]
        lots.append(tuple(sorted(lot)))
    return (ways, tuple(lots))


def keeping_ways(web, root):
    """All ways of a small web that keep the root."""
    return list(product(*[[end for end in tie if end != root] for tie in web[1]]))


def excesses(web, ways):
    return [sum(out - q for out in looks.outs(web, ways) if out > q) for q in range(len(web[1]) + 1)]


class Excess(unittest.TestCase):

    def test_own_sum(self):
        chance = random.Random(28)
        for web in looks.NAMED_WEBS + looks.great_webs() + looks.chance_webs(280, 60, 8, 20):
            ways = looks.chance_ways(chance, web)
            for q in list(range(max(looks.outs(web, ways)) + 3)) + [120, 121, 10 ** 9]:
                own = sum(out - q for out in looks.outs(web, ways) if out > q)
                self.assertEqual(excess_above(web, ways, q), own)

    def test_told_in_full(self):
        web = (3, ((0, 1), (0, 1), (0, 1), (1, 2)))
        self.assertEqual([excess_above(web, (0, 0, 0, 2), q) for q in range(5)], [4, 2, 1, 0, 0])
        self.assertEqual([excess_above(web, (0, 1, 1, 1), q) for q in range(5)], [4, 2, 1, 0, 0])
        self.assertEqual([excess_above(web, (0, 0, 1, 1), q) for q in range(5)], [4, 2, 0, 0, 0])
        self.assertEqual(excess_above((1, ()), (), 0), 0)
        self.assertEqual(excess_above(looks.many_ties(2, 120), (0,) * 120, 119), 1)
        self.assertEqual(excess_above(looks.many_ties(2, 120), (0,) * 120, 0), 120)


class RightEven(unittest.TestCase):

    def same(self, web, root, thing):
        told = right_even(web, root, thing)
        self.assertIs(told, is_even_paper(web, root, thing), (web, root, thing))
        return told

    def test_just_even_ways_have_papers(self):
        papers = 0
        for web in looks.chance_webs(29, 40, 5, 8):
            for root in [None] + list(range(web[0])):
                keeping = keeping_ways(web, root)
                least = [min(column) for column in zip(*[excesses(web, ways) for ways in keeping])]
                for ways in keeping:
                    paper = paper_of(web, root, ways)
                    even = excesses(web, ways) == least
                    self.assertIs(right_even(web, root, paper), even, (web, root, paper))
                    papers += even
        self.assertGreater(papers, 500)

    def test_all_lots_in_the_place_of_one(self):
        for web in looks.chance_webs(290, 30, 5, 9):
            for root in [None] + list(range(web[0])):
                ways = min(keeping_ways(web, root), key=lambda ways: excesses(web, ways))
                ways, lots = paper_of(web, root, ways)
                for at in range(len(lots)):
                    for lot in looks.all_lots(web) + [()]:
                        self.same(web, root, (ways, lots[:at] + (lot,) + lots[at + 1:]))

    def test_bent(self):
        right = wrong = 0
        for web in looks.chance_webs(291, 25, 4, 7):
            for root in [None] + list(range(web[0])):
                keeping = keeping_ways(web, root)
                ways = min(keeping, key=lambda ways: excesses(web, ways)[::-1])
                paper = paper_of(web, root, ways)
                for thing in [paper] + looks.bent(paper):
                    told = self.same(web, root, thing)
                    right, wrong = right + told, wrong + (not told)
        self.assertGreater(right, 80)
        self.assertGreater(wrong, 3000)

    def test_a_tie_turned_or_out_of_the_root(self):
        web = (3, ((0, 1), (0, 1), (0, 1), (1, 2)))
        self.assertIs(right_even(web, None, ((0, 0, 1, 2), ((0, 1),))), True)
        self.assertIs(right_even(web, None, ((0, 0, 1, 2), ((0, 1, 2),))), True)
        self.assertIs(right_even(web, None, ((0, 0, 1, 1), ((0, 1),))), False)
        self.assertIs(right_even(web, None, ((0, 0, 1, 1), ((0, 1, 2),))), False)
        self.assertIs(right_even(web, None, ((0, 0, 1, 2), ())), False)
        self.assertIs(right_even(web, 2, ((0, 0, 1, 1), ((0, 1),))), True)
        self.assertIs(right_even(web, 2, ((0, 0, 0, 1), ((0, 1), (0,)))), False)
        self.assertIs(right_even(web, 2, ((0, 0, 1, 2), ((0, 1),))), False)
        self.assertIs(right_even(web, 0, ((1, 1, 1, 2), ((1,), (1,)))), True)
        self.assertIs(right_even(web, 0, ((1, 1, 1, 2), ((1, 2), (1,)))), True)
        self.assertIs(right_even(web, 0, ((1, 1, 1, 2), ((1,), (1, 2)))), False)
        self.assertIs(right_even(web, 0, ((1, 1, 1, 2), ((0, 1), (1,)))), False)
        self.assertIs(right_even(web, 0, ((1, 1, 1, 1), ((1,), (1,), (1,)))), False)

    def test_a_right_one_bent_by_hand(self):
        web = (4, ((0, 1), (0, 1), (0, 1), (1, 2), (2, 3)))
        ways = (0, 0, 1, 2, 3)
        for lot in ((0, 1), (0, 1, 2), (0, 1, 2, 3)):
            self.assertIs(right_even(web, None, (ways, (lot,))), True)
        for bent in ((), ((0, 1), (0, 1)), ((0,),), ((1,),), ((0, 1, 3),), ((0, 2),), ([0, 1],), [(0, 1)], ((1, 0),),
                     ((0, 1, 1),), ((0, True),), ((False, 1),), (None,), None, ((),), "01", {0: (0, 1)}, 1):
            self.assertIs(right_even(web, None, (ways, bent)), False, bent)
        self.assertIs(right_even(web, None, [ways, ((0, 1),)]), False)
        self.assertIs(right_even(web, None, (list(ways), ((0, 1),))), False)
        self.assertIs(right_even(web, None, (ways, ((0, 1),), None)), False)
        self.assertIs(right_even(web, None, (ways + (0,), ((0, 1),))), False)
        self.assertIs(right_even(web, None, (ways[:-1], ((0, 1),))), False)

    def test_edges(self):
        for root in (None, 0):
            self.assertIs(right_even((1, ()), root, ((), ())), True)
            self.assertIs(right_even((1, ()), root, ((), ((0,),))), False)
            self.assertIs(right_even((40, ()), root, ((), ())), True)
        many = looks.many_ties(2, 120)
        self.assertIs(right_even(many, None, ((0, 1) * 60, ((0, 1),) * 59)), True)
        self.assertIs(right_even(many, None, ((0, 1) * 60, ((0, 1),) * 60)), False)
        self.assertIs(right_even(many, None, ((0, 1) * 60, ((0, 1),) * 58)), False)
        self.assertIs(right_even(many, None, ((0,) * 61 + (1,) * 59, ((0, 1),) * 60)), False)
        self.assertIs(right_even(many, 0, ((1,) * 120, ((1,),) * 119)), True)
        self.assertIs(right_even(many, 0, ((1,) * 119 + (0,), ((1,),) * 118)), False)
        self.assertIs(right_even(many, 1, ((0,) * 120, ((0,),) * 119)), True)
        self.assertIs(right_even(many, 1, ((1,) * 120, ((1,),) * 119)), False)
        ring = looks.ring_web(40)
        self.assertIs(right_even(ring, None, (tuple(range(39)) + (39,), ())), True)
        self.assertIs(right_even(ring, 39, (tuple(range(39)) + (0,), ((0,),))), False)
        self.assertIs(right_even(ring, 39, (tuple(range(39)) + (0,), (tuple(range(39)),))), True)

    def test_anything(self):
        web, ways, lots = (3, ((0, 1), (0, 1), (0, 1))), (0, 0, 1), ((0, 1),)
        for thing in looks.odd_things():
            for root in (None, 0, 1, 2):
                for whole in (thing, (thing,), (thing, thing), (ways, thing), (thing, lots), (ways, (thing,)),
                              (ways, ((0, thing),)), ((0, 0, thing), lots), ((0, thing, 1), lots),
                              (ways, lots, thing), (ways, lots + (thing,))):
                    self.same(web, root, whole)
            for root in (None, 0):
                self.same((1, ()), root, thing)
                self.same((1, ()), root, ((), thing))


if __name__ == "__main__":
    unittest.main()

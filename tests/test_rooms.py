"""[31] tight lots and rooms for one tie more, [32] the greatest tight lots."""

import random
import unittest
from itertools import combinations

from fewforests.brims import brims_of, rooms_of
from fewforests.errors import TooGreat
from fewforests.fewest import fewest_forests
from fewforests.rooms import is_tight, right_rooms
from tests import looks


def is_tight_lot(web, k, laying, lot):
    return looks.is_tight(web, k, laying, lot, range(len(web[1])))


class Look:
    """The test's own look at the rooms of one web and laying."""

    def __init__(self, web, k, laying):
        self.web, self.k, self.laying = web, k, laying
        self.rings = {}

    def wider(self, pair):
        return (self.web[0], self.web[1] + (pair,))

    def is_row(self, pair, thing):
        if pair not in self.rings:
            self.rings[pair] = looks.own_rings(self.wider(pair), self.k, self.laying + (None,))
        tie = len(self.laying)
        return looks.is_row(self.wider(pair), self.k, self.laying + (None,), tie, thing, self.rings[pair])

    def is_rooms(self, thing):
        if self.web[0] > 16 or len(self.web[1]) >= 120 or type(thing) is not tuple or len(thing) != 2:
            return False
        lots, rows = thing
        if type(lots) is not tuple or type(rows) is not tuple:
            return False
        for lot in lots:
            if not looks.is_lot(self.web, lot) or len(lot) < 2:
                return False
            if not is_tight_lot(self.web, self.k, self.laying, lot):
                return False
        pairs = [pair for pair in combinations(range(self.web[0]), 2) if not any(set(pair) <= set(lot) for lot in lots)]
        # What Python shows tells True from 1 and a list from a tuple.
        if [repr(row[0]) if type(row) is tuple and len(row) == 2 else None for row in rows] != list(map(repr, pairs)):
            return False
        return all(self.is_row(pair, row[1]) for pair, row in zip(pairs, rows))


def tight_cases(seed, many, points, ties):
    """Webs with whole layings in as many forests as needed, or one more."""
    cases = []
    for web in looks.chance_webs(seed, many, points, ties):
        k, laying, lot = fewest_forests(web)
        cases += [(web, k, laying), (web, k + 1, laying)]
    return cases


class IsTight(unittest.TestCase):

    def test_own_count(self):
        chance = random.Random(31)
        tight = loose = 0
        for web in looks.NAMED_WEBS[:3] + looks.NAMED_WEBS[6:] + looks.chance_webs(310, 40, 6, 12):
            if web[0] > 8:
                continue
            for k in (0, 1, 2, 3):
                for laying in (looks.chance_laying(chance, web, k, 1), looks.chance_laying(chance, web, k, 0.7)):
                    for lot in looks.all_lots(web):
                        told = is_tight(web, k, laying, lot)
                        self.assertIs(told, is_tight_lot(web, k, laying, lot), (web, k, laying, lot))
                        tight, loose = tight + told, loose + (not told)
        self.assertGreater(tight, 1000)
        self.assertGreater(loose, 1000)

    def test_by_hand(self):
        web = (4, ((0, 1), (0, 1), (1, 2), (0, 2), (2, 3)))
        laying = (0, 1, 0, 1, 0)
        self.assertIs(is_tight(web, 2, laying, (0, 1)), True)
        self.assertIs(is_tight(web, 2, laying, (0, 1, 2)), True)
        self.assertIs(is_tight(web, 2, laying, (0, 1, 2, 3)), False)
        self.assertIs(is_tight(web, 2, laying, (1, 2)), False)
        self.assertIs(is_tight(web, 2, laying, (2, 3)), False)
        # One point is always tight, and each lot where there are no forests.
        for point in range(4):
            self.assertIs(is_tight(web, 2, laying, (point,)), True)
        self.assertIs(is_tight((3, ()), 0, (), (0, 1, 2)), True)
        # A forest that is empty, and a tie that lies elsewhere or is left out.
        self.assertIs(is_tight(web, 3, laying, (0, 1)), False)
        self.assertIs(is_tight(web, 2, (0, 1, 0, None, 0), (0, 1, 2)), False)
        self.assertIs(is_tight(web, 2, (0, None, 0, 1, 0), (0, 1)), False)
        self.assertIs(is_tight(web, 2, (0, None, 0, 1, 0), (0, 1, 2)), False)

    def test_many_ties(self):
        many = looks.many_ties(2, 120)
        self.assertIs(is_tight(many, 120, tuple(range(120)), (0, 1)), True)
        self.assertIs(is_tight(many, 120, tuple(range(119)) + (None,), (0, 1)), False)
        self.assertIs(is_tight(looks.ring_web(40), 1, (0,) * 39 + (None,), tuple(range(40))), True)
        self.assertIs(is_tight(looks.ring_web(40), 1, (0,) * 39 + (None,), (3, 4, 5)), True)
        self.assertIs(is_tight(looks.ring_web(40), 1, (0,) * 39 + (None,), (3, 4, 6)), False)


class RightRooms(unittest.TestCase):

    def same(self, look, thing):
        told = right_rooms(look.web, look.k, look.laying, thing)
        self.assertIs(told, look.is_rooms(thing), (look.web, look.k, look.laying, thing))
        return told

    def test_bent(self):
        right = wrong = 0
        for case in tight_cases(311, 25, 4, 6):
            look = Look(*case)
            paper = rooms_of(*case)
            self.assertTrue(look.is_rooms(paper))
            for thing in [paper] + looks.bent(paper):
                told = self.same(look, thing)
                right, wrong = right + told, wrong + (not told)
        self.assertGreater(right, 80)
        self.assertGreater(wrong, 4000)

    def test_other_lots_that_hold_the_same_pairs(self):
        for case in tight_cases(312, 20, 5, 8):
            look = Look(*case)
            lots, rows = rooms_of(*case)
            for lot in looks.all_lots(case[0]):
                self.same(look, (lots + (lot,), rows))
                self.same(look, ((lot,) + lots, rows))
                self.same(look, ((lot,), rows))
            brims = brims_of(*case)
            self.assertIs(self.same(look, (brims, rows)), True)
            self.assertIs(self.same(look, (brims + lots + lots, rows)), True)

    def test_by_hand(self):
        web, k, laying = (4, ((0, 1), (0, 1), (1, 2))), 2, (0, 1, 0)
        lots = ((0, 1),)
        rows = (((0, 2), ((3, 1),)), ((0, 3), ((3, 0),)), ((1, 2), ((3, 1),)), ((1, 3), ((3, 0),)), ((2, 3), ((3, 1),)))
        self.assertIs(right_rooms(web, k, laying, (lots, rows)), True)
        for bent in ((), ((0, 1, 2),), ((0,),), ((0, 1), (3,)), ((0, 2),), ((1, 0),), [(0, 1)], ([0, 1],), None, 0):
            self.assertIs(right_rooms(web, k, laying, (bent, rows)), False, bent)
        self.assertIs(right_rooms(web, k, laying, (((0, 1), (0, 1)), rows)), True)
        first, others = rows[0], rows[1:]
        more = (((0, 1), ((3, 0),)),) + rows
        for bent in (others, rows[:-1], more, rows + rows[-1:], rows[:1] + rows, rows[::-1], list(rows), None, {},
                     (rows[1], rows[0]) + rows[2:], (((2, 0), ((3, 1),)),) + others, (list(first),) + others,
                     (((0, 2), ((3, 0),)),) + others, (((0, 2), ((3, 2),)),) + others, (((0, 2), ((2, 1),)),) + others,
                     (((0, 2), ()),) + others, (((0, 2), [(3, 1)]),) + others, (([0, 2], ((3, 1),)),) + others,
                     (((False, 2), ((3, 1),)),) + others, (((0, 2), ((3, True),)),) + others, ((0, 2),) + others,
                     (((0, 2), ((3, 1),), 0),) + others, (((0, 2, 3), ((3, 1),)),) + others, (None,) + others):
            self.assertIs(right_rooms(web, k, laying, (lots, bent)), False, bent)
        self.assertIs(right_rooms(web, k, laying, [lots, rows]), False)
        self.assertIs(right_rooms(web, k, laying, (lots, rows, ())), False)
        self.assertIs(right_rooms(web, k, laying, (lots,)), False)
        # A longer row is as good where a laying comes of it.
        longer = (((0, 2), ((3, 0), (2, 1))),) + others
        self.assertIs(right_rooms(web, k, laying, (lots, longer)), True)
        # A row for another pair does not do: what it pushes is in another ring.
        wrong = rows[:2] + (((1, 2), ((3, 0), (0, 1))),) + rows[3:]
        self.assertIs(right_rooms(web, k, laying, (lots, wrong)), False)

    def test_anything(self):
        web, k, laying = (3, ((0, 1), (0, 1))), 2, (0, 1)
        look = Look(web, k, laying)
        lots, rows = rooms_of(web, k, laying)
        for thing in looks.odd_things():
            for whole in (thing, (thing,), (thing, thing), (lots, thing), (thing, rows), ((thing,), rows),
                          (lots + (thing,), rows), (lots, rows + (thing,)), (lots, rows[:1] + (thing,)),
                          (lots, rows[:1] + (((1, 2), thing),)), (lots, rows[:1] + ((thing, rows[1][1]),)),
                          (lots, rows[:1] + (((1, thing), rows[1][1]),)), (lots, rows[:1] + (((1, 2), (thing,)),)),
                          (lots, rows[:1] + (((1, 2), ((2, thing),)),)), (lots, rows, thing), (((0, thing),), rows)):
                self.same(look, whole)
            for small in (Look((1, ()), 0, ()), Look((2, ()), 0, ()), Look((2, ()), 1, ())):
                self.same(small, thing)
                self.same(small, (thing, ()))
                self.same(small, ((), thing))


class RoomsOf(unittest.TestCase):

    def rooms(self, web, k, laying):
        told = rooms_of(web, k, laying)
        self.assertIs(right_rooms(web, k, laying, told), True, (web, k, laying, told))
        self.assertTrue(Look(web, k, laying).is_rooms(told))
        lots, rows = told
        with_row = [pair for pair, row in rows]
        self.assertEqual(with_row, sorted(set(with_row)))
        for pair in combinations(range(web[0]), 2):
            held = any(set(pair) <= set(lot) for lot in lots)
            self.assertIs(held, pair not in with_row)
        for pair, row in rows:
            laid = looks.pushed(laying + (None,), row)
            self.assertTrue(looks.is_laying((web[0], web[1] + (pair,)), k, laid) and None not in laid)
        return told

    def test_let_by(self):
        for case in tight_cases(313, 40, 7, 14) + tight_cases(314, 6, 16, 60):
            self.rooms(*case)

    def test_where_a_tie_can_be_laid_by_all_lots(self):
        for web, k, laying in tight_cases(315, 60, 6, 10):
            rows = dict(self.rooms(web, k, laying)[1])
            for pair in combinations(range(web[0]), 2):
                wider = (web[0], web[1] + (pair,))
                full = any(looks.within(wider, lot) > k * (len(lot) - 1) for lot in looks.all_lots(wider))
                self.assertIs(full, pair not in rows)

    def test_drawn_layings(self):
        chance = random.Random(316)
        for web in looks.chance_webs(317, 60, 6, 9):
            for k in (1, 2, 3, 4):
                laying = looks.chance_laying(chance, web, k, 1)
                if None not in laying:
                    self.rooms(web, k, laying)

    def test_no_forests_and_no_ties(self):
        for points in (1, 2, 5, 16):
            lots, rows = self.rooms((points, ()), 0, ())
            self.assertEqual(rows, ())
            self.assertEqual(len(self.rooms((points, ()), 1, ())[1]), points * (points - 1) // 2)
            self.assertEqual(self.rooms((points, ()), 120, ())[0], ())
        self.assertEqual(rooms_of((1, ()), 0, ()), ((), ()))
        self.assertEqual(rooms_of((1, ()), 120, ()), ((), ()))

    def test_at_the_bounds(self):
        many = looks.many_ties(2, 119)
        self.assertEqual(self.rooms(many, 119, tuple(range(119))), (((0, 1),), ()))
        self.assertEqual(self.rooms(many, 120, tuple(range(119))), ((), (((0, 1), ((119, 119),)),)))
        self.assertEqual(brims_of(many, 119, tuple(range(119))), ((0, 1),))
        self.assertEqual(brims_of(many, 120, tuple(range(119))), ())
        chance = random.Random(318)
        web = looks.chance_web(chance, 16, 119)
        k, laying, lot = fewest_forests(web)
        self.rooms(web, k, laying)
        full = looks.full_web(15)
        k, laying, lot = fewest_forests(full)
        self.rooms(full, k, laying)

    def test_beyond_the_bounds(self):
        chance = random.Random(319)
        webs = [(17, ()), (40, ()), looks.path_web(17), looks.ring_web(40), looks.many_ties(2, 120),
                looks.many_ties(17, 120), looks.full_web(16), looks.chance_web(chance, 16, 120), looks.many_ties(2, 121)]
        for web in webs:
            k, laying, lot = fewest_forests(web)
            for asked in (rooms_of, brims_of):
                with self.assertRaises(TooGreat) as caught:
                    asked(web, k, laying)
                self.assertIs(type(caught.exception), TooGreat)
            for thing in looks.odd_things() + [((), ()), ((tuple(range(web[0])),), ())]:
                self.assertIs(right_rooms(web, k, laying, thing), False)
        # These would be right but for the bounds.
        self.assertIs(right_rooms((17, ()), 0, (), ((tuple(range(17)),), ())), False)
        self.assertIs(right_rooms((16, ()), 0, (), ((tuple(range(16)),), ())), True)
        many = looks.many_ties(2, 120)
        self.assertIs(right_rooms(many, 120, tuple(range(120)), (((0, 1),), ())), False)
        self.assertIs(right_rooms(looks.many_ties(2, 119), 119, tuple(range(119)), (((0, 1),), ())), True)


class BrimsOf(unittest.TestCase):

    def brims(self, web, k, laying):
        told = brims_of(web, k, laying)
        self.assertIs(type(told), tuple)
        self.assertEqual(list(told), sorted(told))
        for lot in told:
            self.assertTrue(looks.is_lot(web, lot) and len(lot) > 1 and is_tight_lot(web, k, laying, lot))
        points = [point for lot in told for point in lot]
        self.assertEqual(len(points), len(set(points)))
        return told

    def test_all_lots_of_small_webs(self):
        found = set()
        for web, k, laying in tight_cases(320, 80, 6, 12):
            lots = [set(lot) for lot in looks.all_lots(web) if len(lot) > 1 and is_tight_lot(web, k, laying, lot)]
            greatest = [tuple(sorted(lot)) for lot in lots if not any(lot < other for other in lots)]
            told = self.brims(web, k, laying)
            self.assertEqual(told, tuple(sorted(greatest)))
            found.add(len(told))
        self.assertTrue({0, 1, 2} <= found)

    def test_a_pair_without_row_is_within_a_brim(self):
        for web, k, laying in tight_cases(321, 20, 10, 25) + tight_cases(322, 5, 16, 60):
            brims = self.brims(web, k, laying)
            rows = dict(rooms_of(web, k, laying)[1])
            for pair in combinations(range(web[0]), 2):
                self.assertIs(any(set(pair) <= set(lot) for lot in brims), pair not in rows)

    def test_known_webs(self):
        self.assertEqual(brims_of(looks.path_web(7), 1, (0,) * 6), ((0, 1, 2, 3, 4, 5, 6),))
        self.assertEqual(brims_of(looks.path_web(7), 2, (0,) * 6), ())
        beside = (6, ((0, 2), (2, 4), (1, 3)))
        self.assertEqual(brims_of(beside, 1, (0, 0, 0)), ((0, 2, 4), (1, 3)))
        self.assertEqual(brims_of((1, ()), 0, ()), ())
        self.assertEqual(brims_of((5, ()), 0, ()), ((0, 1, 2, 3, 4),))
        self.assertEqual(brims_of((5, ()), 1, ()), ())
        k, laying, lot = fewest_forests(looks.full_web(6))
        self.assertEqual(brims_of(looks.full_web(6), k, laying), ((0, 1, 2, 3, 4, 5),))


if __name__ == "__main__":
    unittest.main()

"""[4] webs and check, [5] lots, ties within, pieces, rings."""

import random
import unittest
from itertools import combinations

from fewforests.errors import NoWeb
from fewforests.webs import check, pieces_of, ringless, ties_within
from tests import looks


def own_check(thing):
    if type(thing) is not tuple or len(thing) != 2:
        return False
    points, ties = thing
    if not looks.is_int(points) or not 1 <= points <= 40 or type(ties) is not tuple or len(ties) > 120:
        return False
    for tie in ties:
        if type(tie) is not tuple or len(tie) != 2 or not all(looks.is_int(end) for end in tie):
            return False
        if not 0 <= tie[0] < tie[1] < points:
            return False
    return True


class Check(unittest.TestCase):

    def refused(self, thing):
        with self.assertRaises(NoWeb):
            check(thing)

    def test_webs_are_let_by(self):
        for web in looks.NAMED_WEBS + looks.great_webs() + looks.chance_webs(4, 60):
            self.assertIs(check(web), True)

    def test_edges(self):
        self.assertIs(check((1, ())), True)
        self.assertIs(check((40, ())), True)
        self.assertIs(check((2, ((0, 1),) * 120)), True)
        self.assertIs(check((40, ((0, 39),) * 120)), True)
        self.refused((2, ((0, 1),) * 121))
        self.refused((40, ((0, 39),) * 121))

    def test_numbers_of_points(self):
        for points in (0, 41, -1, -40, 10 ** 30, True, False, None, "3", "", (3,), [3], {3: 3}, ()):
            self.refused((points, ()))
        self.refused((True, ()))
        self.refused((1, ((0, 1),)))

    def test_ties_that_are_no_tuple(self):
        for ties in ([], {}, [(0, 1)], {0: (0, 1)}, {(0, 1): 1}, None, "", 0, True):
            self.refused((3, ties))

    def test_ties_that_are_none(self):
        bad = [(1, 0), (1, 1), (0, 0), (0, 1, 2), (0,), (), [0, 1], {0: 1}, {0: 0, 1: 1}, (0, 3), (2, 3), (3, 4),
               (-1, 1), (-2, -1), (0, True), (False, 1), (True, 2), (0, "1"), ("0", "1"), (None, 1), (0, None),
               (0, (1,)), ((0,), 1), 0, 1, None, "01", True, (0, 10 ** 40), (-10 ** 40, 1), (0, [1]), (0, {})]
        for tie in bad:
            self.refused((3, (tie,)))
            self.refused((3, ((0, 1), (1, 2), tie)))
            self.refused((3, (tie, (0, 1))))

    def test_other_numbers_of_parts(self):
        for thing in ((), (3,), ((),), (3, (), ()), (3, ((0, 1),), None), [3, ()], [3, ((0, 1),)], {3: ()}):
            self.refused(thing)

    def test_anything(self):
        for thing in looks.odd_things():
            for whole in (thing, (thing, ()), (3, thing), (3, (thing,)), (3, ((0, thing),)), (3, ((thing, 2),))):
                if own_check(whole):
                    self.assertIs(check(whole), True)
                else:
                    self.refused(whole)

    def test_twenty_deep(self):
        for wrap in (lambda core: (core,), lambda core: [core], lambda core: {0: core}, lambda core: (3, (core,))):
            self.refused(looks.deep(wrap, (), 19))
            self.refused((3, looks.deep(wrap, (), 17)))

    def test_bent_webs(self):
        for web in [(3, ((0, 1), (1, 2))), (2, ((0, 1),)), (40, ((0, 39),))]:
            for thing in looks.bent(web):
                if own_check(thing):
                    self.assertIs(check(thing), True)
                else:
                    self.refused(thing)


class Counts(unittest.TestCase):

    def test_ties_within(self):
        chance = random.Random(5)
        for web in looks.NAMED_WEBS + looks.great_webs() + looks.chance_webs(51, 80):
            for turn in range(6):
                lot = tuple(sorted(chance.sample(range(web[0]), chance.randint(1, web[0]))))
                self.assertEqual(ties_within(web, lot), looks.within(web, lot))

    def test_all_lots_of_small_webs(self):
        for web in looks.chance_webs(52, 20, 5, 12):
            for size in range(1, web[0] + 1):
                for lot in combinations(range(web[0]), size):
                    self.assertEqual(ties_within(web, lot), looks.within(web, lot))

    def test_edges(self):
        self.assertEqual(ties_within((1, ()), (0,)), 0)
        self.assertEqual(ties_within((2, ((0, 1),) * 120), (0, 1)), 120)
        self.assertEqual(ties_within((2, ((0, 1),) * 120), (1,)), 0)
        self.assertEqual(ties_within((40, ((0, 39),) * 120), tuple(range(40))), 120)
        self.assertEqual(ties_within((40, ((0, 39),) * 120), tuple(range(39))), 0)


class Pieces(unittest.TestCase):

    def test_pieces(self):
        for web in looks.NAMED_WEBS + looks.great_webs() + looks.chance_webs(53, 120, 9, 8):
            self.assertEqual(pieces_of(web), looks.pieces(web))

    def test_told_by_least_points(self):
        self.assertEqual(pieces_of((6, ((2, 5), (1, 4), (0, 5)))), ((0, 2, 5), (1, 4), (3,)))
        self.assertEqual(pieces_of((1, ())), ((0,),))
        self.assertEqual(pieces_of((40, ())), tuple((point,) for point in range(40)))
        self.assertEqual(pieces_of(looks.path_web(40)), (tuple(range(40)),))

    def test_kinds(self):
        told = pieces_of((3, ((0, 2),)))
        self.assertIs(type(told), tuple)
        self.assertTrue(all(type(piece) is tuple for piece in told))


class Rings(unittest.TestCase):

    def test_all_choices_of_small_webs(self):
        for web in looks.chance_webs(54, 25, 5, 7):
            for size in range(len(web[1]) + 1):
                for numbers in combinations(range(len(web[1])), size):
                    self.assertIs(ringless(web, numbers), not looks.has_ring(web, numbers))

    def test_great_webs(self):
        chance = random.Random(55)
        for web in looks.great_webs():
            for turn in range(8):
                many = chance.randint(0, min(45, len(web[1])))
                numbers = tuple(sorted(chance.sample(range(len(web[1])), many)))
                self.assertIs(ringless(web, numbers), looks.is_forest(web, numbers))

    def test_two_ties_with_the_same_ends_are_a_ring(self):
        self.assertIs(ringless((2, ((0, 1), (0, 1))), (0, 1)), False)
        self.assertIs(ringless((2, ((0, 1), (0, 1))), (1,)), True)
        self.assertIs(ringless((40, ((3, 39), (0, 1), (3, 39))), (0, 2)), False)

    def test_long_rings(self):
        self.assertIs(ringless(looks.ring_web(40), tuple(range(40))), False)
        for out in range(40):
            self.assertIs(ringless(looks.ring_web(40), tuple(n for n in range(40) if n != out)), True)

    def test_no_ties(self):
        self.assertIs(ringless((1, ()), ()), True)
        self.assertIs(ringless((2, ((0, 1),) * 120), ()), True)


if __name__ == "__main__":
    unittest.main()

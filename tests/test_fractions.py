"""[40] fractions, [41] how thick, [42] how strong and [43] how crowded a web is, [3] copies of webs."""

import random
import unittest
from fractions import Fraction
from math import gcd

from fewforests.crowd import crowd_of, right_crowd
from fewforests.errors import OnePoint, TooGreat
from fewforests.fewest import fewest_forests
from fewforests.made import copies_of
from fewforests.outward import fewest_outs
from fewforests.partings import all_partings
from fewforests.standing import most_trees
from fewforests.strong import right_strong, strength_of
from fewforests.thick import right_thick, thickness_of
from tests import looks


def is_fraction(p, q):
    return looks.is_int(p) and looks.is_int(q) and 0 <= p <= 999 and 1 <= q <= 999 and gcd(p, q) == 1


def is_rising(thing, least, most):
    if type(thing) is not tuple or not all(looks.is_int(number) for number in thing):
        return False
    return list(thing) == sorted(set(thing)) and all(least <= number <= most for number in thing)


def is_four(thing):
    return type(thing) is tuple and len(thing) == 4 and is_fraction(*thing[:2])


def is_thick(web, thing):
    if not is_four(thing):
        return False
    p, q, spread, lot = thing
    if not looks.is_lot(web, lot) or len(lot) < 2 or q * looks.within(web, lot) != p * (len(lot) - 1):
        return False
    if type(spread) is not tuple or len(spread) != len(web[1]):
        return False
    if not all(is_rising(forests, 0, p - 1) and len(forests) == q for forests in spread):
        return False
    return all(looks.is_forest(web, [tie for tie, forests in enumerate(spread) if forest in forests])
               for forest in range(p))


def is_strong(web, thing):
    if not is_four(thing):
        return False
    p, q, trees, parting = thing
    if not looks.is_parting(web, parting) or len(set(parting)) < 2:
        return False
    if q * looks.between(web, parting) != p * (len(set(parting)) - 1):
        return False
    if type(trees) is not tuple or len(trees) != p:
        return False
    for tree in trees:
        if not is_rising(tree, 0, len(web[1]) - 1) or not looks.is_forest(web, tree):
            return False
        if len(set(looks.joined(web, tree))) != 1:
            return False
    return all(len([1 for tree in trees if tie in tree]) <= q for tie in range(len(web[1])))


def is_crowd(web, thing):
    if not is_four(thing):
        return False
    p, q, units, lot = thing
    if not looks.is_lot(web, lot) or q * looks.within(web, lot) != p * len(lot):
        return False
    if type(units) is not tuple or len(units) != len(web[1]):
        return False
    if not all(looks.is_int(many) and 0 <= many <= q for many in units):
        return False
    for point in range(web[0]):
        lesser = sum(many for many, (a, b) in zip(units, web[1]) if a == point)
        greater = sum(q - many for many, (a, b) in zip(units, web[1]) if b == point)
        if lesser + greater > p:
            return False
    return True


def own_thickness(web):
    return max(Fraction(looks.within(web, lot), len(lot) - 1) for lot in looks.all_lots(web) if len(lot) > 1)


def own_partings(web):
    """All partings, of eight points too."""
    partings = [(0,)]
    for point in range(1, web[0]):
        partings = [parting + (part,) for parting in partings for part in range(max(parting) + 2)]
    return partings


def own_strength(web):
    return min(Fraction(looks.between(web, parting), max(parting)) for parting in own_partings(web) if max(parting))


def own_crowd(web):
    return max(Fraction(looks.within(web, lot), len(lot)) for lot in looks.all_lots(web))


def small_webs(seed, many, points=8, ties=15):
    return [web for web in looks.chance_webs(seed, many, points, ties) if web[0] > 1]


KINDS = [(thickness_of, right_thick, is_thick, own_thickness), (strength_of, right_strong, is_strong, own_strength),
         (crowd_of, right_crowd, is_crowd, own_crowd)]
EDGES = [(2, ()), (8, ()), (2, ((0, 1),)), looks.many_ties(2, 15), looks.many_ties(8, 15, (2, 6)), looks.ring_web(8),
         looks.path_web(8), looks.star_web(8), looks.full_web(4), looks.full_web(5), looks.full_web(6),
         looks.ring_web(3), (8, looks.ring_web(7)[1] * 2), (8, looks.path_web(8)[1] * 2),
         (8, looks.full_web(5)[1] + ((4, 5), (5, 6), (6, 7))), (7, looks.full_web(4)[1] + ((3, 4), (4, 5), (5, 6), (4, 6)))]


class Told(unittest.TestCase):

    def told(self, web, kind):
        asked, right, look, own = kind
        paper = asked(web)
        self.assertIs(right(web, paper), True, (web, paper))
        self.assertTrue(look(web, paper), (web, paper))
        return Fraction(paper[0], paper[1])

    def test_the_greatest_the_least_and_the_greatest_of_all(self):
        found = [set(), set(), set()]
        for web in EDGES + small_webs(400, 60) + small_webs(401, 60, 6, 12):
            for at, kind in enumerate(KINDS):
                told = self.told(web, kind)
                self.assertEqual(told, kind[3](web), web)
                found[at].add(told)
        for told in found:
            self.assertGreater(len(told), 15)
            self.assertGreater(len([1 for fraction in told if fraction.denominator > 1]), 8)

    def test_known_webs(self):
        for points in range(3, 9):
            ring = looks.ring_web(points)
            self.assertEqual(thickness_of(ring)[:2], (points, points - 1))
            self.assertEqual(strength_of(ring)[:2], (points, points - 1))
            self.assertEqual(crowd_of(ring)[:2], (1, 1))
            path = looks.path_web(points)
            self.assertEqual(thickness_of(path)[:2], (1, 1))
            self.assertEqual(strength_of(path)[:2], (1, 1))
            self.assertEqual(crowd_of(path)[:2], (points - 1, points))
            self.assertEqual(thickness_of((points, ()))[:3], (0, 1, ()))
            self.assertEqual(strength_of((points, ()))[:3], (0, 1, ()))
            self.assertEqual(crowd_of((points, ()))[:3], (0, 1, ()))
        for many in range(1, 16):
            web = looks.many_ties(2, many)
            self.assertEqual(thickness_of(web)[:2], (many, 1))
            self.assertEqual(strength_of(web)[:2], (many, 1))
            self.assertEqual(Fraction(*crowd_of(web)[:2]), Fraction(many, 2))
        self.assertEqual(strength_of(looks.many_ties(3, 5)), (0, 1, (), (0, 0, 1)))
        self.assertEqual(thickness_of(looks.full_web(5))[:2], (5, 2))
        self.assertEqual(crowd_of((1, ())), (0, 1, (), (0,)))

    def refused(self, error, web, asked):
        with self.assertRaises(error) as caught:
            asked(web)
        self.assertIs(type(caught.exception), error)

    def test_refusals(self):
        within = [looks.many_ties(8, 15), (8, ()), looks.many_ties(2, 15), looks.full_web(6)]
        beyond = [looks.many_ties(8, 16), (9, ()), looks.many_ties(2, 16), looks.path_web(9), looks.full_web(7),
                  looks.many_ties(2, 120), (40, ()), looks.ring_web(40), looks.ring_web(9)]
        for asked, right, look, own in KINDS:
            for web in within:
                self.assertIs(right(web, asked(web)), True)
            for web in beyond:
                self.refused(TooGreat, web, asked)
        self.refused(OnePoint, (1, ()), thickness_of)
        self.refused(OnePoint, (1, ()), strength_of)
        self.assertIs(right_crowd((1, ()), crowd_of((1, ()))), True)

    def test_too_great_comes_ahead_of_one_point(self):
        # No web is both, but something like one is: its ties are never looked at.
        for asked in (thickness_of, strength_of):
            self.refused(TooGreat, (1, ((0, 1),) * 16), asked)


class Checkers(unittest.TestCase):

    def same(self, web, kind, thing):
        told = kind[1](web, thing)
        self.assertIs(told, kind[2](web, thing), (web, thing))
        return told

    def test_bent(self):
        for kind in KINDS:
            right = wrong = 0
            for web in EDGES[2:3] + EDGES[11:12] + small_webs(402, 25, 4, 5):
                paper = kind[0](web)
                for thing in [paper] + looks.bent(paper):
                    told = self.same(web, kind, thing)
                    right, wrong = right + told, wrong + (not told)
            self.assertGreater(right, 25)
            self.assertGreater(wrong, 2000)

    def test_all_lots_and_all_partings_in_the_place_of_one(self):
        for web in small_webs(403, 30, 6, 10):
            for kind in KINDS:
                paper = kind[0](web)
                for other in looks.all_lots(web) + all_partings(web):
                    self.same(web, kind, paper[:3] + (other,))

    def test_other_fractions(self):
        for web in small_webs(404, 12, 5, 8):
            for kind in KINDS:
                p, q, spread, lot = kind[0](web)
                for other in [(p + 1, q), (p, q + 1), (q, p), (2 * p, 2 * q), (-p, q), (p, -q), (p, 0), (0, q), (0, 1),
                              (0, 2), (p, True), (True, q), (p, None), ("1", q), (1000, q), (p, 1000), (10 ** 400, q)]:
                    self.same(web, kind, other + (spread, lot))
                self.same(web, kind, [p, q, spread, lot])
                self.same(web, kind, (p, q, spread, lot, lot))
                self.same(web, kind, (p, q, spread))

    def test_what_is_not_in_lowest_terms(self):
        one = (2, ((0, 1),))
        self.assertIs(right_thick(one, (1, 1, ((0,),), (0, 1))), True)
        self.assertIs(right_thick(one, (2, 2, ((0, 1),), (0, 1))), False)
        self.assertIs(right_strong(one, (1, 1, ((0,),), (0, 1))), True)
        self.assertIs(right_strong(one, (2, 2, ((0,), (0,)), (0, 1))), False)
        self.assertIs(right_crowd(one, (1, 2, (1,), (0, 1))), True)
        self.assertIs(right_crowd(one, (2, 4, (2,), (0, 1))), False)
        none = (3, ())
        for right, place in ((right_thick, (0, 2)), (right_strong, (0, 0, 1)), (right_crowd, (1,))):
            self.assertIs(right(none, (0, 1, (), place)), True)
            for q in (0, 2, 3, 999, -1, True):
                self.assertIs(right(none, (0, q, (), place)), False)
            self.assertIs(right(none, (1, 1, (), place)), False)
            self.assertIs(right(none, (False, 1, (), place)), False)

    def test_thick_by_hand(self):
        web, lot = looks.ring_web(3), (0, 1, 2)
        self.assertIs(right_thick(web, (3, 2, ((0, 1), (1, 2), (0, 2)), lot)), True)
        self.assertIs(right_thick(web, (3, 2, ((0, 1), (0, 1), (0, 2)), lot)), False)
        self.assertIs(right_thick(web, (3, 2, ((0, 1), (0, 1), (0, 1)), lot)), False)
        self.assertIs(right_thick(web, (3, 2, ((0, 1), (1, 2), (2, 0)), lot)), False)
        self.assertIs(right_thick(web, (3, 2, ((0, 1), (1, 2), (0, 3)), lot)), False)
        self.assertIs(right_thick(web, (3, 2, ((0, 1), (1, 2), (0,)), lot)), False)
        self.assertIs(right_thick(web, (3, 2, ((0, 1), (1, 2), (0, 0)), lot)), False)
        self.assertIs(right_thick(web, (3, 2, ((0, 1), (1, 2)), lot)), False)
        self.assertIs(right_thick(web, (3, 2, ((0, 1), (1, 2), [0, 2]), lot)), False)
        self.assertIs(right_thick(web, (3, 2, ((0, 1), (1, 2), (0, 2)), (0, 1))), False)
        self.assertIs(right_thick(web, (3, 2, ((0, 1), (1, 2), (0, 2)), (0,))), False)
        self.assertIs(right_thick(web, (2, 1, ((0,), (0,), (1,)), lot)), False)

    def test_strong_by_hand(self):
        web, parting = looks.ring_web(3), (0, 1, 2)
        self.assertIs(right_strong(web, (3, 2, ((0, 1), (1, 2), (0, 2)), parting)), True)
        self.assertIs(right_strong(web, (3, 2, ((0, 2), (0, 1), (1, 2)), parting)), True)
        self.assertIs(right_strong(web, (3, 2, ((0, 1), (1, 2), (0, 1)), parting)), False)
        self.assertIs(right_strong(web, (3, 2, ((0, 1), (0, 1), (0, 1)), parting)), False)
        self.assertIs(right_strong(web, (3, 2, ((0, 1), (1, 2), (0, 1, 2)), parting)), False)
        self.assertIs(right_strong(web, (3, 2, ((0, 1), (1, 2), (2, 0)), parting)), False)
        self.assertIs(right_strong(web, (3, 2, ((0, 1), (1, 2), (0,)), parting)), False)
        self.assertIs(right_strong(web, (3, 2, ((0, 1), (1, 2)), parting)), False)
        self.assertIs(right_strong(web, (3, 2, ((0, 1), (1, 2), (0, 2)), (0, 0, 1))), False)
        self.assertIs(right_strong(web, (3, 2, ((0, 1), (1, 2), (0, 2)), (0, 0, 0))), False)
        self.assertIs(right_strong(web, (1, 1, ((0, 1),), parting)), False)

    def test_crowd_by_hand(self):
        web, lot = (3, ((0, 1), (1, 2))), (0, 1, 2)
        self.assertIs(right_crowd(web, (2, 3, (2, 1), lot)), True)
        self.assertIs(right_crowd(web, (2, 3, (3, 1), lot)), False)
        self.assertIs(right_crowd(web, (2, 3, (2, 2), lot)), False)
        self.assertIs(right_crowd(web, (2, 3, (1, 1), lot)), False)
        self.assertIs(right_crowd(web, (2, 3, (2, -1), lot)), False)
        self.assertIs(right_crowd(web, (2, 3, (2, 4), lot)), False)
        self.assertIs(right_crowd(web, (2, 3, (2, True), lot)), False)
        self.assertIs(right_crowd(web, (2, 3, (2,), lot)), False)
        self.assertIs(right_crowd(web, (2, 3, [2, 1], lot)), False)
        self.assertIs(right_crowd(web, (2, 3, (2, 1), (0, 1))), False)
        self.assertIs(right_crowd(web, (1, 1, (1, 1), lot)), False)
        # A lot of a single point does where there are no ties within any lot.
        self.assertIs(right_crowd((1, ()), (0, 1, (), (0,))), True)

    def test_webs_of_any_size(self):
        ring, points = looks.ring_web(40), tuple(range(40))
        spread = tuple(tuple(forest for forest in range(40) if forest != tie) for tie in range(40))
        many = looks.many_ties(2, 120)
        singles = tuple((tie,) for tie in range(120))
        papers = [(ring, KINDS[0], (40, 39, spread, points)), (ring, KINDS[1], (40, 39, spread, points)),
                  (ring, KINDS[2], (1, 1, (1,) * 39 + (0,), points)), (many, KINDS[0], (120, 1, singles, (0, 1))),
                  (many, KINDS[1], (120, 1, singles, (0, 1))), (many, KINDS[2], (60, 1, (0, 1) * 60, (0, 1)))]
        for web, kind, paper in papers:
            self.assertIs(self.same(web, kind, paper), True)
            for at in range(4):
                for other in (None, 0, paper[at][1:] if at > 1 else paper[at] + 1, paper[at][::-1] if at > 1 else 998):
                    self.same(web, kind, paper[:at] + (other,) + paper[at + 1:])
        for kind in KINDS:
            self.same((9, ()), kind, (0, 1, (), (0, 1)))
            self.same((40, ()), kind, (0, 1, (), (0,) * 39 + (1,)))
            self.same(ring, kind, (999, 998, (), (0, 1)))

    def test_one_point(self):
        for kind in KINDS[:2]:
            for thing in ((0, 1, (), (0,)), (0, 1, (), ()), (1, 1, ((),), (0,)), (0, 1, (), (0, 1))):
                self.assertIs(kind[1]((1, ()), thing), False)

    def test_anything(self):
        web = looks.ring_web(3)
        for kind in KINDS:
            p, q, spread, lot = kind[0](web)
            for thing in looks.odd_things() + [10 ** 5000]:
                for whole in (thing, (thing,), (thing,) * 4, (thing, q, spread, lot), (p, thing, spread, lot),
                              (p, q, thing, lot), (p, q, spread, thing), (p, q, (thing,), lot), (p, q, spread, (thing,)),
                              (p, q, spread[:2] + (thing,), lot), (p, q, spread + (thing,), lot),
                              (p, q, ((0, thing),) + spread[1:], lot), (p, q, spread, (0, 1, thing)),
                              (p, q, spread, lot, thing)):
                    self.same(web, kind, whole)
                for small in ((1, ()), (2, ()), (9, ())):
                    self.same(small, kind, thing)
                    self.same(small, kind, (0, 1, (), thing))
                    self.same(small, kind, (0, 1, thing, (0, 1)))


class Copies(unittest.TestCase):

    def test_copies_against_the_fractions(self):
        rounded = 0
        for web in EDGES + small_webs(405, 30) + small_webs(407, 40):
            thick = Fraction(*thickness_of(web)[:2])
            strong = Fraction(*strength_of(web)[:2])
            crowd = Fraction(*crowd_of(web)[:2])
            for c in (1, 2, 3, 4, 5, 7, 8):
                if c * len(web[1]) <= 120:
                    copies = copies_of(web, c)
                    self.assertEqual(fewest_forests(copies)[0], -(-c * thick // 1))
                    self.assertEqual(most_trees(copies)[0], c * strong // 1)
                    self.assertEqual(fewest_outs(copies)[0], -(-c * crowd // 1))
                    rounded += (c * thick).denominator > 1
        self.assertGreater(rounded, 60)

    def test_many_copies_of_a_small_web(self):
        chance = random.Random(406)
        for turn in range(4):
            web = looks.chance_web(chance, 3, 3)
            for c in (20, 39, 40):
                copies = copies_of(web, c)
                self.assertEqual(fewest_forests(copies)[0], -(-c * Fraction(*thickness_of(web)[:2]) // 1))
                self.assertEqual(most_trees(copies)[0], c * Fraction(*strength_of(web)[:2]) // 1)
                self.assertEqual(fewest_outs(copies)[0], -(-c * Fraction(*crowd_of(web)[:2]) // 1))


if __name__ == "__main__":
    unittest.main()

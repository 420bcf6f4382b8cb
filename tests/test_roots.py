"""[44] roots of the trees of a laying, and even ones."""

import random
import unittest
from itertools import product

from fewforests.fewest import fewest_forests, lay_all
from fewforests.roots import even_roots, right_roots
from tests import looks


def own_trees(web, k, laying):
    """For each forest its trees, by their least points."""
    told = []
    for forest in range(k):
        reach = set(looks.joined(web, looks.lying(laying, forest)))
        told.append([tuple(sorted(tree)) for tree in sorted(reach, key=min)])
    return told


def own_shares(web, root, roots):
    """The shares of all points but the told root."""
    rows = [point for row in roots for point in row]
    return {point: rows.count(point) for point in range(web[0]) if point != root}


def is_roots(trees, root, thing):
    if type(thing) is not tuple or len(thing) != len(trees):
        return False
    for row, forest in zip(thing, trees):
        if type(row) is not tuple or len(row) != len(forest):
            return False
        for point, tree in zip(row, forest):
            if not looks.is_int(point) or point not in tree or root in tree and point != root:
                return False
    return True


def is_roots_paper(web, trees, root, thing):
    if type(thing) is not tuple or len(thing) != 2 or not is_roots(trees, root, thing[0]):
        return False
    roots, lots = thing
    shares = own_shares(web, root, roots)
    greatest = max(shares.values(), default=0)
    if type(lots) is not tuple or len(lots) != len(range(1, greatest)):
        return False
    for q, lot in zip(range(1, greatest), lots):
        if not looks.is_lot(web, lot) or root in lot:
            return False
        if any(share > q and point not in lot for point, share in shares.items()):
            return False
        if any(shares[point] < q for point in lot):
            return False
        for row, forest in zip(roots, trees):
            if any(point in lot and not set(tree) <= set(lot) for point, tree in zip(row, forest)):
                return False
    return True


def all_roots(trees, root):
    """All roots of a small laying with the told root."""
    choices = [[(root,) if root in tree else tree for tree in forest] for forest in trees]
    return list(product(*[list(product(*forest)) for forest in choices]))


def excesses(web, root, roots):
    shares = own_shares(web, root, roots).values()
    return [sum(share - q for share in shares if share > q) for q in range(len(roots) * web[0] + 2)]


def cases(seed, many, points, ties, more=2):
    """Webs with whole layings in as many forests as needed, or some more, told or drawn."""
    chance = random.Random(seed)
    told = []
    for web in looks.chance_webs(seed, many, points, ties):
        k, laying, lot = fewest_forests(web)
        told.append((web, k + chance.randint(0, more), laying))
        drawn = looks.chance_laying(chance, web, k + 1, 1)
        if None not in drawn:
            told.append((web, k + 1, drawn))
    return told


class EvenRoots(unittest.TestCase):

    def even(self, web, k, laying, root, trees=None):
        told = even_roots(web, k, laying, root)
        self.assertIs(type(told), tuple)
        self.assertIs(right_roots(web, k, laying, root, told), True, (web, k, laying, root, told))
        self.assertTrue(is_roots_paper(web, trees or own_trees(web, k, laying), root, told))
        return told

    def test_let_by_with_each_root(self):
        for web, k, laying in cases(44, 40, 8, 20) + cases(440, 6, 16, 60):
            trees = own_trees(web, k, laying)
            for root in [None] + list(range(web[0])):
                self.even(web, k, laying, root, trees)

    def test_the_least_sum_of_all_roots(self):
        asked = 0
        for web, k, laying in cases(441, 120, 5, 7, 1):
            trees = own_trees(web, k, laying)
            for root in [None] + list(range(web[0])):
                every = all_roots(trees, root)
                if len(every) > 300:
                    continue
                least = [min(column) for column in zip(*[excesses(web, root, roots) for roots in every])]
                told = self.even(web, k, laying, root)
                self.assertEqual(excesses(web, root, told[0]), least)
                asked += 1
        self.assertGreater(asked, 300)

    def test_a_told_root_alone_in_its_forest(self):
        web, laying = (4, ((0, 1), (1, 2))), (0, 0)
        roots, lots = self.even(web, 1, laying, 3)
        self.assertEqual(roots[0][1], 3)
        roots, lots = self.even(web, 3, laying, 3)
        self.assertEqual([row[-1] for row in roots], [3, 3, 3])
        self.assertEqual(roots[1:], ((0, 1, 2, 3),) * 2)
        # Its own share does not count: so the others alone have lots.
        self.assertEqual(len(lots), max(own_shares(web, 3, roots).values()) - 1)

    def test_no_forests_and_empty_ones(self):
        for points in (1, 2, 40):
            for root in (None, 0, points - 1):
                self.assertEqual(even_roots((points, ()), 0, (), root), ((), ()))
                self.assertEqual(even_roots((points, ()), 1, (), root), ((tuple(range(points)),), ()))
        self.assertEqual(even_roots((1, ()), 3, (), 0), (((0,),) * 3, ()))
        self.assertEqual(even_roots((1, ()), 3, (), None), (((0,),) * 3, ((0,), (0,))))
        self.assertEqual(even_roots((2, ()), 3, (), 0), (((0, 1),) * 3, ((1,), (1,))))
        web = (2, ((0, 1),))
        self.assertEqual(even_roots(web, 1, (0,), 0), (((0,),), ()))
        self.assertEqual(even_roots(web, 1, (0,), 1), (((1,),), ()))
        self.even(web, 2, (1,), None)

    def test_known_layings(self):
        # As many trees as points, each over all of them: each point is the root of one.
        for points in (2, 3, 5, 8):
            path = looks.path_web(points)[1]
            web = (points, path * points)
            laying = tuple(forest for forest in range(points) for tie in path)
            self.assertEqual(set(own_shares(web, None, self.even(web, points, laying, None)[0]).values()), {1})
            self.assertEqual(set(own_shares(web, 0, self.even(web, points, laying, 0)[0]).values()), {0})
        many = looks.many_ties(2, 120)
        shares = own_shares(many, None, self.even(many, 120, tuple(range(120)), None)[0])
        self.assertEqual(shares, {0: 60, 1: 60})
        self.assertEqual(self.even(many, 120, tuple(range(120)), 1), (((1,),) * 120, ()))

    def test_trees_that_must_be_turned_along_a_way(self):
        # Forest by forest the ties of a path: shares move on over several trees.
        for points in (4, 6, 9):
            web = looks.path_web(points)
            for k in (1, 2, points - 1):
                laying = tuple(tie * k // (points - 1) for tie in range(points - 1))
                for root in [None] + list(range(points)):
                    self.even(web, k, laying, root)

    def test_great_webs(self):
        for web, k in ((looks.many_ties(40, 120, (7, 33)), 120), (looks.ring_web(40), 2), (looks.ring_web(40), 120),
                       ((40, ((7, 33),) * 119 + ((0, 7),)), 119)):
            laying = lay_all(web, k)[1]
            for root in (None, 7):
                told = self.even(web, k, laying, root)
                self.assertEqual(len(told[0]), k)


class RightRoots(unittest.TestCase):

    def same(self, case, root, thing):
        web, k, laying = case
        told = right_roots(web, k, laying, root, thing)
        self.assertIs(told, is_roots_paper(web, own_trees(*case), root, thing), (case, root, thing))
        return told

    def test_bent(self):
        right = wrong = 0
        for case in cases(442, 12, 4, 6, 1):
            for root in (None, 0, case[0][0] - 1):
                paper = even_roots(*case, root)
                for thing in [paper] + looks.bent(paper):
                    told = self.same(case, root, thing)
                    right, wrong = right + told, wrong + (not told)
        self.assertGreater(right, 50)
        self.assertGreater(wrong, 3000)

    def test_all_lots_in_the_place_of_one(self):
        asked = 0
        for case in cases(443, 25, 4, 7, 2):
            for root in [None] + list(range(case[0][0])):
                roots, lots = even_roots(*case, root)
                for at in range(len(lots)):
                    for lot in looks.all_lots(case[0]) + [()]:
                        self.same(case, root, (roots, lots[:at] + (lot,) + lots[at + 1:]))
                        asked += 1
        self.assertGreater(asked, 500)

    def test_just_even_roots_have_papers(self):
        even = uneven = 0
        for case in cases(444, 40, 4, 5, 1):
            web, trees = case[0], own_trees(*case)
            for root in [None] + list(range(web[0])):
                every = all_roots(trees, root)
                if len(every) > 100:
                    continue
                least = [min(column) for column in zip(*[excesses(web, root, roots) for roots in every])]
                for roots in every:
                    is_even = excesses(web, root, roots) == least
                    self.assertIs(right_roots(*case, root, self.paper_of(web, trees, root, roots)), is_even)
                    even, uneven = even + is_even, uneven + (not is_even)
        self.assertGreater(even, 200)
        self.assertGreater(uneven, 100)

    def paper_of(self, web, trees, root, roots):
        """The paper of these roots with the least lots, by going on from the points with shares above q."""
        shares = own_shares(web, root, roots)
        lots = []
        for q in range(1, max(shares.values(), default=0)):
            lot = [point for point, share in shares.items() if share > q]
            for point in lot:
                for row, forest in zip(roots, trees):
                    lot += [other for top, tree in zip(row, forest) if top == point for other in tree if other not in lot]
            lots.append(tuple(sorted(lot)))
        return (roots, tuple(lots))

    def test_by_hand(self):
        web, laying = (3, ((0, 1), (0, 1))), (0, 1)
        self.assertIs(right_roots(web, 2, laying, None, (((0, 2), (1, 2)), ((2,),))), True)
        self.assertIs(right_roots(web, 2, laying, None, (((0, 2), (0, 2)), ((0, 2),))), False)
        self.assertIs(right_roots(web, 2, laying, None, (((0, 2), (0, 2)), ((0, 1, 2),))), False)
        self.assertIs(right_roots(web, 2, laying, None, (((0, 2), (1, 2)), ((1, 2),))), False)
        self.assertIs(right_roots(web, 2, laying, None, (((0, 2), (1, 2)), ((0, 1, 2),))), True)
        self.assertIs(right_roots(web, 2, laying, 0, (((0, 2), (0, 2)), ((2,),))), True)
        self.assertIs(right_roots(web, 2, laying, 0, (((0, 2), (0, 2)), ((0, 2),))), False)
        self.assertIs(right_roots(web, 2, laying, 0, (((0, 2), (1, 2)), ((2,),))), False)
        self.assertIs(right_roots(web, 2, laying, 2, (((0, 2), (1, 2)), ())), True)
        self.assertIs(right_roots(web, 2, laying, 2, (((0, 2), (1, 2)), ((0, 1),))), False)
        self.assertIs(right_roots(web, 2, laying, 2, (((0, 2), (0, 2)), ((0,),))), False)
        self.assertIs(right_roots(web, 2, laying, 2, (((0, 2), (0, 2)), ((0, 1),))), False)
        right = ((0, 2), (1, 2))
        for bent in (((0, 2),), right + ((0, 1, 2),), ((0, 2), (1,)), ((0, 2), (1, 2, 2)), ((0, 2), (2, 1)), ((0, 2), (1, 1)),
                     ((2, 2), (1, 2)), ([0, 2], (1, 2)), [(0, 2), (1, 2)], ((False, 2), (1, 2)), ((0, 2), (True, 2)), None):
            self.assertIs(right_roots(web, 2, laying, None, (bent, ((2,),))), False, bent)
        for bent in ((), ((2,), (2,)), ((),), ((3,),), ([2],), [(2,)], ((2, 2),), None, 2, (None,), ((True,),)):
            self.assertIs(right_roots(web, 2, laying, None, (right, bent)), False, bent)
        self.assertIs(right_roots(web, 2, laying, None, [right, ((2,),)]), False)
        self.assertIs(right_roots(web, 2, laying, None, (right, ((2,),), ())), False)

    def test_no_point_but_the_told_root(self):
        self.assertIs(right_roots((1, ()), 3, (), 0, (((0,),) * 3, ())), True)
        self.assertIs(right_roots((1, ()), 3, (), 0, (((0,),) * 3, ((0,), (0,)))), False)
        self.assertIs(right_roots((1, ()), 3, (), None, (((0,),) * 3, ((0,), (0,)))), True)
        self.assertIs(right_roots((1, ()), 3, (), None, (((0,),) * 3, ())), False)
        self.assertIs(right_roots((1, ()), 0, (), 0, ((), ())), True)
        self.assertIs(right_roots((1, ()), 0, (), 0, ((), ((0,),))), False)

    def test_anything(self):
        for web, k, laying in (((3, ((0, 1), (0, 1))), 2, (0, 1)), ((1, ()), 0, ()), ((2, ()), 3, ())):
            for root in (None, 0):
                roots, lots = even_roots(web, k, laying, root)
                for thing in looks.odd_things():
                    for whole in (thing, (thing,), (thing, thing), (roots, thing), (thing, lots), (roots, (thing,)),
                                  (roots[:1] + (thing,), lots), ((thing,) * k, lots), (roots, lots + (thing,)),
                                  (roots[:1] + ((0, thing),), lots), (roots, ((0, thing),)), (roots, lots, thing)):
                        self.same((web, k, laying), root, whole)


if __name__ == "__main__":
    unittest.main()

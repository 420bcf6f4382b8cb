"""[37] a match: ties are cut and kept, and what is kept joins all points in the end."""

import random
import unittest

from fewforests.errors import NoTie
from fewforests.match import Match, right_match
from fewforests.standing import most_trees
from tests import looks


def is_joining_forest(web, numbers):
    return looks.is_forest(web, numbers) and len(set(looks.joined(web, numbers))) == 1


def is_rising(web, thing):
    if type(thing) is not tuple or not all(looks.is_int(number) for number in thing):
        return False
    return list(thing) == sorted(set(thing)) and all(0 <= number < len(web[1]) for number in thing)


def is_match(web, cuts, thing):
    if type(thing) is not tuple or len(thing) != 3 or not all(is_rising(web, part) for part in thing):
        return False
    kept, one, other = map(set, thing)
    if kept & one or kept & other or one & other or (kept | one | other) & set(cuts):
        return False
    return is_joining_forest(web, kept | one) and is_joining_forest(web, kept | other)


def two_trees(chance, points, more):
    """A web of two drawn trees and some ties more, in a drawn order, and the trees."""
    ties = []
    for forest in (0, 1):
        order = chance.sample(range(points), points)
        ties += [(tuple(sorted((order[at], chance.choice(order[:at])))), forest) for at in range(1, points)]
    if points > 1:
        ties += [(tuple(sorted(chance.sample(range(points), 2))), None) for tie in range(more)]
    ties = chance.sample(ties, len(ties))
    return (points, tuple(tie for tie, forest in ties)), tuple(forest for tie, forest in ties)


def some_trees(seed, many, points, more):
    chance = random.Random(seed)
    return [two_trees(chance, chance.randint(1, points), chance.randint(0, more)) for turn in range(many)]


def great_trees():
    chance = random.Random(372)
    many = looks.many_ties(2, 120)
    return [two_trees(chance, 16, 30), two_trees(chance, 40, 42), two_trees(chance, 2, 118),
            (many, (0, 1) + (None,) * 118), (many, (None,) * 118 + (1, 0))]


class Matches(unittest.TestCase):

    def begun(self, web, trees):
        match = Match(web, trees)
        self.assertEqual(match.state(), ((), tuple(looks.lying(trees, 0)), tuple(looks.lying(trees, 1))))
        self.assertEqual(match.cuts(), ())
        self.assertIs(match.joined(), web[0] == 1)
        return match

    def cut(self, match, web, tie):
        """Cuts a tie and holds all that is told against the state ahead."""
        (kept, one, other), cuts = match.state(), match.cuts()
        told = match.cut(tie)
        if tie in one:
            self.assertIn(told, other)
        elif tie in other:
            self.assertIn(told, one)
        else:
            self.assertIsNone(told)
        self.assertTrue(told is None or type(told) is int)
        gone = {tie, told}
        state = (tuple(sorted(set(kept) | gone - {tie, None})), tuple(sorted(set(one) - gone)),
                 tuple(sorted(set(other) - gone)))
        self.assertEqual(repr(match.state()), repr(state))
        self.assertEqual(repr(match.cuts()), repr(tuple(sorted(set(cuts) | {tie}))))
        self.always(match, web)
        return told

    def always(self, match, web):
        state, cuts = match.state(), match.cuts()
        self.assertTrue(is_match(web, cuts, state), (web, cuts, state))
        self.assertIs(right_match(web, cuts, state), True)
        self.assertIs(match.joined(), len(set(looks.joined(web, state[0]))) == 1)
        if state[1:] == ((), ()):
            self.assertIs(match.joined(), True)

    def refused(self, match, thing):
        ahead = (match.state(), match.cuts(), match.joined())
        with self.assertRaises(NoTie) as caught:
            match.cut(thing)
        self.assertIs(type(caught.exception), NoTie)
        self.assertEqual((match.state(), match.cuts(), match.joined()), ahead)

    def played(self, web, trees, order):
        """Cuts in this order till each tie is cut or kept."""
        match = self.begun(web, trees)
        for tie in order:
            if tie in match.state()[0]:
                self.refused(match, tie)
            else:
                self.cut(match, web, tie)
            self.refused(match, tie)
        self.assertEqual(match.state()[1:], ((), ()))
        self.assertIs(match.joined(), True)
        self.assertEqual(sorted(match.state()[0] + match.cuts()), list(range(len(web[1]))))
        for tie in range(-2, len(web[1]) + 2):
            self.refused(match, tie)

    def test_many_orders(self):
        chance = random.Random(37)
        for web, trees in some_trees(370, 60, 8, 6):
            numbers = list(range(len(web[1])))
            for order in [numbers, numbers[::-1]] + [chance.sample(numbers, len(numbers)) for turn in range(4)]:
                self.played(web, trees, order)

    def test_one_tree_is_cut_as_long_as_it_has_ties(self):
        chance = random.Random(371)
        for web, trees in some_trees(373, 40, 9, 4):
            for tree in (1, 2):
                match = self.begun(web, trees)
                while match.state()[tree]:
                    self.cut(match, web, chance.choice(match.state()[tree]))
                self.assertEqual(match.state()[3 - tree], ())
                self.assertIs(match.joined(), True)

    def test_each_first_cut(self):
        for web, trees in some_trees(374, 40, 7, 4):
            for tie in range(len(web[1])):
                match = self.begun(web, trees)
                self.cut(match, web, tie)
                self.refused(match, tie)

    def test_great_webs(self):
        chance = random.Random(375)
        for web, trees in great_trees():
            numbers = range(len(web[1]))
            self.played(web, trees, chance.sample(numbers, len(numbers)))

    def test_trees_that_the_program_tells(self):
        for web in (looks.full_web(4), looks.full_web(7), looks.many_ties(2, 5), (5, looks.ring_web(5)[1] * 2)):
            k, laying, parting = most_trees(web)
            trees = tuple(forest if forest in (0, 1) else None for forest in laying)
            self.played(web, trees, range(len(web[1])))

    def test_by_hand(self):
        web = (3, ((0, 1), (1, 2), (0, 1), (0, 2), (1, 2)))
        match = Match(web, (0, 0, 1, 1, None))
        self.assertIsNone(match.cut(4))
        self.assertEqual(match.state(), ((), (0, 1), (2, 3)))
        # Without tie 1 point 2 is apart in the one tree: tie 3 alone leads to it in the other.
        self.assertEqual(match.cut(1), 3)
        self.assertEqual(match.state(), ((3,), (0,), (2,)))
        self.assertIs(match.joined(), False)
        self.assertEqual(match.cut(2), 0)
        self.assertEqual(match.state(), ((0, 3), (), ()))
        self.assertIs(match.joined(), True)
        self.assertEqual(match.cuts(), (1, 2, 4))

    def test_anything(self):
        web, trees = (3, ((0, 1), (1, 2), (0, 1), (0, 2), (1, 2))), (0, 0, 1, 1, None)
        for thing in looks.odd_things() + [True, False, "1", (0,), [0], {0: 0}, 5, -1, 10 ** 5000]:
            if not (looks.is_int(thing) and 0 <= thing < 5):
                match = Match(web, trees)
                self.refused(match, thing)
                match.cut(1)
                self.refused(match, thing)
                self.refused(Match((1, ()), ()), thing)

    def test_two_matches_of_the_same_trees(self):
        for web, trees in some_trees(376, 20, 6, 3):
            first, second = Match(web, trees), Match(web, trees)
            again = [Match(web, trees).cut(tie) for tie in range(len(web[1]))]
            for tie in range(len(web[1])):
                ahead = second.state()
                if tie not in first.state()[0]:
                    self.cut(first, web, tie)
                self.assertEqual((second.state(), second.cuts()), (ahead, ()))
            self.assertEqual([Match(web, trees).cut(tie) for tie in range(len(web[1]))], again)

    def test_one_point(self):
        match = self.begun((1, ()), ())
        self.assertEqual(match.state(), ((), (), ()))
        self.assertIs(match.joined(), True)
        self.refused(match, 0)


class RightMatch(unittest.TestCase):

    def same(self, web, cuts, thing):
        told = right_match(web, cuts, thing)
        self.assertIs(told, is_match(web, cuts, thing), (web, cuts, thing))
        return told

    def test_bent(self):
        chance = random.Random(377)
        right = wrong = 0
        for web, trees in some_trees(378, 60, 5, 3):
            match = Match(web, trees)
            for tie in chance.sample(range(len(web[1])), chance.randint(0, len(web[1]))):
                if tie not in match.state()[0]:
                    match.cut(tie)
            state, cuts = match.state(), match.cuts()
            for thing in [state] + looks.bent(state, (None, True, 0, 1, 2, 3, -1, "0", (), [0], {0: 0}, (0, 1))):
                told = self.same(web, cuts, thing)
                right, wrong = right + told, wrong + (not told)
            for tie in range(len(web[1])):
                self.same(web, tuple(sorted(set(cuts) | {tie})), state)
        self.assertGreater(right, 50)
        self.assertGreater(wrong, 4000)

    def test_ties_moved_from_part_to_part(self):
        for web, trees in some_trees(379, 30, 5, 3):
            parts = Match(web, trees).state()
            for tie in range(len(web[1])):
                for place in range(4):
                    moved = [tuple(number for number in part if number != tie) for part in parts]
                    if place < 3:
                        moved[place] = tuple(sorted(moved[place] + (tie,)))
                    self.same(web, (), tuple(moved))

    def test_by_hand(self):
        web = (3, ((0, 1), (1, 2), (0, 1), (0, 2), (1, 2)))
        self.assertIs(right_match(web, (), ((), (0, 1), (2, 3))), True)
        self.assertIs(right_match(web, (4,), ((), (0, 1), (2, 3))), True)
        self.assertIs(right_match(web, (3,), ((), (0, 1), (2, 3))), False)
        self.assertIs(right_match(web, (1, 2, 4), ((0, 3), (), ())), True)
        self.assertIs(right_match(web, (), ((0, 3), (), ())), True)
        self.assertIs(right_match(web, (), ((3,), (0,), (2,))), True)
        for bent in (((3,), (0,), (0,)), ((3,), (0, 3), (2,)), ((3,), (0,), ()), ((3,), (), (2,)), ((), (1, 0), (2, 3)),
                     ((), (0, 0, 1), (2, 3)), ((), (0, 1), (2, 3, 4)), ((), (0, 2), (1, 3)), ([], (0, 1), (2, 3)),
                     ((), [0, 1], (2, 3)), [(), (0, 1), (2, 3)], ((), (False, 1), (2, 3)), ((), (0, True), (2, 3)),
                     ((), (0, 1)), ((), (0, 1), (2, 3), ()), ((), (0, 1), (2, 5)), ((), (-1, 1), (2, 3)), (), None):
            self.assertIs(right_match(web, (), bent), False, bent)
        self.assertIs(right_match((1, ()), (), ((), (), ())), True)
        self.assertIs(right_match((1, ()), (), ((0,), (), ())), False)

    def test_great_webs(self):
        for web, trees in great_trees():
            kept, one, other = Match(web, trees).state()
            self.same(web, (), (kept, one, other))
            self.same(web, (one[0],), (kept, one, other))
            self.same(web, (), (one, (), ()))
            self.same(web, other, (one, (), ()))
            self.same(web, (), (kept, one[1:], other))

    def test_anything(self):
        web = (2, ((0, 1), (0, 1), (0, 1)))
        for thing in looks.odd_things():
            for whole in (thing, (thing,), (thing, thing, thing), (thing, (0,), (1,)), ((), thing, (1,)),
                          ((), (0,), thing), ((), (thing,), (1,)), ((), (0,), (thing,)), ((), (0,), (1,), thing)):
                self.same(web, (), whole)
                self.same(web, (2,), whole)
            self.same((1, ()), (), thing)


if __name__ == "__main__":
    unittest.main()

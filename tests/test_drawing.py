"""[30] the web within a lot, the web with the lot drawn together, and layings of both glued."""

import random
import unittest

from fewforests.drawing import drawn_web, glued_laying, inner_web
from fewforests.fewest import fewest_forests
from fewforests.layings import right_laying
from fewforests.webs import check
from tests import looks


def own_inner(web, lot):
    ties, numbers = [], []
    for number, (a, b) in enumerate(web[1]):
        if a in lot and b in lot:
            ties.append((len([p for p in lot if p < a]), len([p for p in lot if p < b])))
            numbers.append(number)
    return ((len(lot), tuple(ties)), tuple(numbers))


def own_drawn(web, lot):
    gone = set(lot) - {min(lot)}

    def place(point):
        point = min(lot) if point in lot else point
        return point - len([other for other in gone if other < point])

    ties, numbers = [], []
    for number, tie in enumerate(web[1]):
        if not set(tie) <= set(lot):
            ties.append(tuple(sorted(place(end) for end in tie)))
            numbers.append(number)
    return ((web[0] - len(gone), tuple(ties)), tuple(numbers))


def some_lots(chance, web):
    """All points, each point, both ends of each tie, and drawn lots."""
    lots = [tuple(range(web[0]))] + [(point,) for point in range(web[0])] + list(dict.fromkeys(web[1]))
    lots += [tuple(sorted(chance.sample(range(web[0]), chance.randint(1, web[0])))) for turn in range(8)]
    return lots


class Drawing(unittest.TestCase):

    def drawn(self, web, lot):
        inner, outer = inner_web(web, lot), drawn_web(web, lot)
        self.assertEqual(repr(inner), repr(own_inner(web, lot)))
        self.assertEqual(repr(outer), repr(own_drawn(web, lot)))
        self.assertIs(check(inner[0]), True)
        self.assertIs(check(outer[0]), True)
        self.assertEqual(sorted(inner[1] + outer[1]), list(range(len(web[1]))))
        return inner, outer

    def glued(self, web, lot, k, inside, outside):
        told = glued_laying(web, lot, inside, outside)
        self.assertIs(right_laying(web, k, told), True, (web, lot, told))
        self.assertTrue(looks.is_laying(web, k, told))
        for numbers, part in ((own_inner(web, lot)[1], inside), (own_drawn(web, lot)[1], outside)):
            self.assertEqual([told[number] for number in numbers], list(part))
        return told

    def test_own_making(self):
        chance = random.Random(30)
        for web in looks.NAMED_WEBS + looks.chance_webs(300, 60, 8, 20) + looks.chance_webs(301, 10, 16, 60):
            for lot in some_lots(chance, web):
                self.drawn(web, lot)

    def test_greatest_webs_that_are_promised(self):
        chance = random.Random(302)
        many = (40, ((7, 33),) * 119 + ((0, 7),))
        for web in (looks.many_ties(2, 120), looks.many_ties(40, 120, (7, 33)), many, looks.ring_web(40)):
            for lot in some_lots(chance, web):
                self.drawn(web, lot)
            for lot in (tuple(range(web[0])), (0,), web[1][0], (0, web[0] - 1)):
                inside = fewest_forests(own_inner(web, lot)[0])
                outside = fewest_forests(own_drawn(web, lot)[0])
                self.glued(web, lot, max(inside[0], outside[0]), inside[1], outside[1])

    def test_glued_layings(self):
        chance = random.Random(303)
        left_out = 0
        for web in looks.NAMED_WEBS + looks.chance_webs(304, 60, 7, 16):
            for lot in some_lots(chance, web):
                inner, outer = own_inner(web, lot)[0], own_drawn(web, lot)[0]
                for k in (0, 1, 2, 3, 120):
                    share = chance.choice((0.5, 0.9, 1))
                    inside = looks.chance_laying(chance, inner, min(k, 4), share)
                    outside = looks.chance_laying(chance, outer, min(k, 4), share)
                    left_out += None in self.glued(web, lot, k, inside, outside)
        self.assertGreater(left_out, 100)

    def test_whole_layings_make_a_whole_one(self):
        chance = random.Random(305)
        for web in looks.chance_webs(306, 60, 8, 20):
            for lot in some_lots(chance, web):
                inside = fewest_forests(own_inner(web, lot)[0])
                outside = fewest_forests(own_drawn(web, lot)[0])
                k = max(inside[0], outside[0])
                self.assertNotIn(None, self.glued(web, lot, k, inside[1], outside[1]))
                self.assertLessEqual(fewest_forests(web)[0], k)

    def test_told_in_full(self):
        web = (5, ((0, 1), (1, 3), (2, 3), (0, 2), (1, 4), (3, 4), (1, 3)))
        self.assertEqual(inner_web(web, (1, 3, 4)), ((3, ((0, 1), (0, 2), (1, 2), (0, 1))), (1, 4, 5, 6)))
        self.assertEqual(drawn_web(web, (1, 3, 4)), ((3, ((0, 1), (1, 2), (0, 2))), (0, 2, 3)))
        self.assertEqual(glued_laying(web, (1, 3, 4), (0, 0, None, 1), (1, 0, 0)), (1, 0, 0, 0, 0, None, 1))
        # Points 1 and 3 are both tied to 2 here: so the drawn web has two ties with the same ends.
        web = (4, ((1, 2), (2, 3), (1, 3), (0, 2)))
        self.assertEqual(drawn_web(web, (1, 3)), ((3, ((1, 2), (1, 2), (0, 2))), (0, 1, 3)))
        self.assertEqual(drawn_web(web, (2, 3)), ((3, ((1, 2), (1, 2), (0, 2))), (0, 2, 3)))
        self.assertEqual(drawn_web(web, (0, 3)), ((3, ((1, 2), (0, 2), (0, 1), (0, 2))), (0, 1, 2, 3)))

    def test_edges(self):
        self.assertEqual(inner_web((1, ()), (0,)), ((1, ()), ()))
        self.assertEqual(drawn_web((1, ()), (0,)), ((1, ()), ()))
        self.assertEqual(glued_laying((1, ()), (0,), (), ()), ())
        web = looks.full_web(5)
        whole = tuple(range(len(web[1])))
        self.assertEqual(inner_web(web, (0, 1, 2, 3, 4)), (web, whole))
        self.assertEqual(drawn_web(web, (0, 1, 2, 3, 4)), ((1, ()), ()))
        for point in range(5):
            self.assertEqual(inner_web(web, (point,)), ((1, ()), ()))
            self.assertEqual(drawn_web(web, (point,)), (web, whole))


if __name__ == "__main__":
    unittest.main()

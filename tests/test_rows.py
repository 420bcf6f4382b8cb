"""[11] rows of pushes, [12] levels."""

import random
import unittest
from itertools import islice, product

from fewforests.rows import pushed_laying, right_levels, right_row
from tests import looks

SMALL = [(web, k) for web in looks.chance_webs(11, 30, 5, 7) for k in (1, 2, 3) if web[1]]
CROWDED = [(looks.chance_web(random.Random(seed), 6, 10), 2) for seed in range(60)]


def push_by_push(tie, rings, row=()):
    """Rows that are right push by push, whether a laying comes of them or not."""
    used = [number for number, forest in row] + [tie]
    for (pusher, forest), ring in rings.items():
        if pusher == tie and ring is None:
            yield row + ((tie, forest),)
        elif pusher == tie:
            for other in ring:
                if other not in used:
                    yield from push_by_push(other, rings, row + ((tie, forest),))


def some_rows(tie, rings, many):
    return list(islice(push_by_push(tie, rings), many))


def cases(seed, webs):
    """Each of the webs with a drawn laying, its rings, and each tie that it leaves out."""
    chance = random.Random(seed)
    for web, k in webs:
        laying = looks.chance_laying(chance, web, k, chance.choice((0.6, 0.9)))
        rings = looks.own_rings(web, k, laying)
        for tie in range(len(laying)):
            if laying[tie] is None:
                yield web, k, laying, tie, rings


class Rows(unittest.TestCase):

    def same(self, web, k, laying, tie, thing, rings):
        told = right_row(web, k, laying, tie, thing)
        self.assertIs(told, looks.is_row(web, k, laying, tie, thing, rings), (web, k, laying, tie, thing))

    def test_rows_that_are_right_push_by_push_and_what_comes_of_them(self):
        right = wrong = 0
        for web, k, laying, tie, rings in cases(110, SMALL + CROWDED):
            for row in some_rows(tie, rings, 200):
                comes = looks.is_laying(web, k, looks.pushed(laying, row))
                self.assertIs(right_row(web, k, laying, tie, row), comes)
                self.assertEqual(pushed_laying(laying, row), looks.pushed(laying, row))
                right, wrong = right + comes, wrong + (not comes)
        self.assertGreater(right, 100)
        self.assertGreater(wrong, 5)

    def test_right_push_by_push_but_no_laying_comes(self):
        found = 0
        for web, k, laying, tie, rings in cases(112, [(looks.full_web(5), 3), (looks.full_web(6), 3)] * 10):
            for row in some_rows(tie, rings, 500):
                if not looks.is_laying(web, k, looks.pushed(laying, row)):
                    self.assertIs(right_row(web, k, laying, tie, row), False)
                    found += 1
        self.assertGreater(found, 100)

    def test_bent_rows(self):
        for web, k, laying, tie, rings in cases(113, SMALL + CROWDED[:30]):
            for row in some_rows(tie, rings, 4):
                for thing in looks.bent(row):
                    self.same(web, k, laying, tie, thing, rings)

    def test_other_ties_and_forests(self):
        for web, k, laying, tie, rings in cases(114, SMALL + CROWDED[:20]):
            for row in some_rows(tie, rings, 2):
                for at in range(len(row)):
                    for entry in product(range(-1, len(laying) + 1), range(-1, k + 1)):
                        self.same(web, k, laying, tie, row[:at] + (entry,) + row[at + 1:], rings)
                for other in range(len(laying)):
                    if laying[other] is None:
                        self.same(web, k, laying, other, row, rings)

    def test_anything(self):
        web = (3, ((0, 1), (1, 2), (0, 2), (0, 1)))
        laying = (0, 0, 1, None)
        rings = looks.own_rings(web, 2, laying)
        for thing in looks.odd_things():
            for whole in (thing, (thing,), ((3, 0), thing), ((3, thing),), ((thing, 1),), (thing, (3, 1)),
                          ((3, 0), (0, thing)), ((3, 0), (thing, 1))):
                self.same(web, 2, laying, 3, whole, rings)
                self.assertIs(right_row(web, 0, (None,) * 4, 3, whole), False)

    def test_told_in_full(self):
        web = (3, ((0, 1), (1, 2), (0, 2), (0, 1)))
        laying = (0, 0, 1, None)
        self.assertIs(right_row(web, 2, laying, 3, ((3, 1),)), True)
        self.assertIs(right_row(web, 2, laying, 3, ((3, 0), (0, 1))), True)
        self.assertIs(right_row(web, 2, laying, 3, ((3, 0),)), False)
        self.assertIs(right_row(web, 2, laying, 3, ((3, 0), (1, 1))), False)
        self.assertIs(right_row(web, 2, laying, 3, ((3, 0), (0, 0))), False)
        self.assertIs(right_row(web, 2, laying, 3, ()), False)
        self.assertIs(right_row(web, 2, laying, 3, [(3, 1)]), False)
        self.assertIs(right_row(web, 2, laying, 3, ([3, 1],)), False)
        self.assertIs(right_row(web, 2, laying, 3, ((3, True),)), False)
        self.assertIs(right_row(web, 2, laying, 3, ((3, 2),)), False)
        self.assertEqual(pushed_laying(laying, ((3, 0), (0, 1))), (1, 0, 1, 0))
        self.assertEqual(pushed_laying((None,), ((0, 119),)), (119,))

    def test_a_hundred_and_twenty_forests(self):
        web = looks.many_ties(2, 120)
        laying = tuple(range(119)) + (None,)
        self.assertIs(right_row(web, 120, laying, 119, ((119, 119),)), True)
        self.assertIs(right_row(web, 119, laying, 119, ((119, 119),)), False)
        self.assertIs(right_row(web, 120, laying, 119, ((119, 7), (7, 119))), True)
        row = tuple((tie, (tie + 1) % 120) for tie in [119] + list(range(118)))
        self.assertIs(right_row(web, 120, laying, 119, row), False)
        row = tuple((tie, (tie + 1) % 120) for tie in [119] + list(range(119)))
        self.assertIs(right_row(web, 120, laying, 119, row), True)


class Levels(unittest.TestCase):

    def same(self, web, k, laying, tie, n, thing, rings):
        told = right_levels(web, k, laying, tie, n, thing)
        self.assertIs(told, looks.is_levels(web, laying, tie, n, thing, rings), (web, k, laying, tie, n, thing))

    def test_fewest_pushes_are_levels_for_as_many_as_a_row_has(self):
        for web, k, laying, tie, rings in cases(120, SMALL + CROWDED):
            counts, shortest = looks.push_counts(tie, rings)
            for unreached in (len(web[1]), 121):
                levels = tuple(counts.get(number, unreached) for number in range(len(laying)))
                for n in range(1, 7):
                    self.same(web, k, laying, tie, n, levels, rings)
                if shortest is not None:
                    self.assertIs(right_levels(web, k, laying, tie, shortest, levels), True)
                    self.assertIs(right_levels(web, k, laying, tie, shortest + 1, levels), False)
                elif unreached == 121:
                    self.assertIs(right_levels(web, k, laying, tie, 121, levels), True)

    def test_all_small_tuples(self):
        for web, k, laying, tie, rings in cases(121, [(looks.full_web(3), 1), (looks.many_ties(3, 4), 2)] * 3):
            for thing in product(range(4), repeat=len(laying)):
                for n in range(1, 5):
                    self.same(web, k, laying, tie, n, thing, rings)

    def test_drawn_and_bent_levels(self):
        chance = random.Random(122)
        for web, k, laying, tie, rings in cases(123, SMALL + CROWDED[:30]):
            counts, shortest = looks.push_counts(tie, rings)
            levels = tuple(counts.get(number, 9) for number in range(len(laying)))
            for n in (1, shortest or 121):
                for thing in looks.bent(levels):
                    self.same(web, k, laying, tie, n, thing, rings)
                drawn = tuple(level + chance.choice((0, 0, 1, -1)) for level in levels)
                self.same(web, k, laying, tie, n, drawn, rings)

    def test_anything(self):
        web = (3, ((0, 1), (1, 2), (0, 1)))
        laying = (0, 0, None)
        rings = looks.own_rings(web, 2, laying)
        for thing in looks.odd_things():
            for whole in (thing, (thing,), (1, 1, thing), (thing, 1, 0), (1, thing, 0)):
                for n in (1, 2, 121):
                    self.same(web, 2, laying, 2, n, whole, rings)

    def test_edges(self):
        web, laying = (2, ((0, 1), (0, 1), (0, 1))), (0, None, None)
        self.assertIs(right_levels(web, 1, laying, 1, 121, (1, 0, 0)), True)
        self.assertIs(right_levels(web, 1, laying, 1, 1, (0, 0, 121)), True)
        self.assertIs(right_levels(web, 1, laying, 1, 1, (0, 0, 122)), False)
        self.assertIs(right_levels(web, 1, laying, 1, 1, (0, 0, -1)), False)
        self.assertIs(right_levels(web, 1, laying, 1, 1, (2, 0, 0)), False)
        self.assertIs(right_levels(web, 1, laying, 1, 1, (1, 1, 0)), False)
        self.assertIs(right_levels(web, 1, laying, 1, 1, (1, False, 0)), False)
        self.assertIs(right_levels(web, 1, laying, 1, 1, (True, 0, 0)), False)
        self.assertIs(right_levels(web, 2, laying, 1, 1, (1, 0, 0)), True)
        self.assertIs(right_levels(web, 2, laying, 1, 2, (1, 0, 0)), False)
        self.assertIs(right_levels(web, 0, (None,) * 3, 1, 121, (0, 0, 0)), True)

    def test_levels_mean_that_no_row_is_shorter(self):
        for web, k, laying, tie, rings in cases(124, SMALL[:40]):
            lengths = [len(row) for row in push_by_push(tie, rings)]
            if lengths and len(laying) <= 5:
                for thing in product(range(3), repeat=len(laying)):
                    for n in (1, 2, 3):
                        if right_levels(web, k, laying, tie, n, thing):
                            self.assertGreaterEqual(min(lengths), n)


if __name__ == "__main__":
    unittest.main()

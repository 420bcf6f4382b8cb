"""[33] renamed webs, [34] webs beside each other, doubled and copied, [35] a tie more, [36] a tie less."""

import random
import unittest

from fewforests.errors import TooGreat
from fewforests.fewest import fewest_forests
from fewforests.layings import right_laying
from fewforests.made import copies_of, doubled_web, led_laying, renamed_web, webs_beside, with_tie, without_tie
from fewforests.webs import check
from tests import looks

WEBS = looks.NAMED_WEBS + looks.great_webs() + looks.chance_webs(33, 40, 9, 20)


def chance_names(chance, web):
    return tuple(chance.sample(range(web[0]), web[0]))


def chance_order(chance, web):
    return tuple(chance.sample(range(len(web[1])), len(web[1])))


class Made(unittest.TestCase):

    def is_made(self, told, points, ties):
        """That this web is told, made of tuples of ints, and that it is a web."""
        self.assertEqual(repr(told), repr((points, tuple(ties))))
        self.assertIs(check(told), True)

    def refuses(self, function, *arguments):
        kept = repr(arguments)
        with self.assertRaises(TooGreat) as caught:
            function(*arguments)
        self.assertIs(type(caught.exception), TooGreat)
        self.assertEqual(repr(arguments), kept)


class Renamed(Made):

    def test_tie_by_tie(self):
        chance = random.Random(330)
        for web in WEBS:
            kept = repr(web)
            names, order = chance_names(chance, web), chance_order(chance, web)
            ties = []
            for number in order:
                ends = [names[end] for end in web[1][number]]
                ties.append((ends[0], ends[1]) if ends[0] < ends[1] else (ends[1], ends[0]))
            self.is_made(renamed_web(web, names, order), web[0], ties)
            self.assertEqual(repr(web), kept)

    def test_told_in_full(self):
        web = (4, ((0, 1), (1, 2), (0, 3)))
        self.assertEqual(renamed_web(web, (2, 0, 3, 1), (2, 0, 1)), (4, ((1, 2), (0, 2), (0, 3))))
        self.assertEqual(renamed_web(web, (0, 1, 2, 3), (0, 1, 2)), web)
        self.assertEqual(renamed_web(web, (3, 2, 1, 0), (1, 2, 0)), (4, ((1, 2), (0, 3), (2, 3))))
        self.assertEqual(renamed_web((1, ()), (0,), ()), (1, ()))

    def test_led_laying(self):
        self.assertEqual(led_laying((5, None, 7), (2, 0, 1)), (7, 5, None))
        self.assertEqual(led_laying(("a", (), [1]), (1, 2, 0)), ((), [1], "a"))
        self.assertEqual(led_laying((), ()), ())
        self.assertIs(type(led_laying((1, 2), (1, 0))), tuple)

    def test_a_laying_is_led_to_one_of_the_renamed_web(self):
        chance = random.Random(331)
        for web in WEBS:
            for k in (0, 1, 3):
                names, order = chance_names(chance, web), chance_order(chance, web)
                laying = looks.chance_laying(chance, web, k)
                led = led_laying(laying, order)
                self.assertEqual(led, tuple(laying[number] for number in order))
                self.assertTrue(looks.is_laying(renamed_web(web, names, order), k, led))
                self.assertIs(right_laying(renamed_web(web, names, order), k, led), True)

    def test_it_needs_as_many_forests(self):
        chance = random.Random(332)
        for web in WEBS:
            other = renamed_web(web, chance_names(chance, web), chance_order(chance, web))
            self.assertEqual(fewest_forests(other)[0], fewest_forests(web)[0])


class Beside(Made):

    def test_tie_by_tie(self):
        chance = random.Random(34)
        for one in looks.NAMED_WEBS + looks.chance_webs(340, 30, 9, 20):
            other = chance.choice(looks.chance_webs(341, 30, 9, 20))
            if one[0] + other[0] <= 40:
                ties = list(one[1]) + [(a + one[0], b + one[0]) for a, b in other[1]]
                kept = repr((one, other))
                self.is_made(webs_beside(one, other), one[0] + other[0], ties)
                self.assertEqual(repr((one, other)), kept)
                greater = max(fewest_forests(one)[0], fewest_forests(other)[0])
                self.assertEqual(fewest_forests(webs_beside(one, other))[0], greater)

    def test_told_in_full(self):
        told = webs_beside((2, ((0, 1),)), (3, ((0, 2), (1, 2))))
        self.assertEqual(told, (5, ((0, 1), (2, 4), (3, 4))))
        self.assertEqual(webs_beside((1, ()), (2, ((0, 1),))), (3, ((1, 2),)))

    def test_edges(self):
        self.is_made(webs_beside((39, ((0, 38),)), (1, ())), 40, [(0, 38)])
        self.is_made(webs_beside((1, ()), (39, ((0, 38),))), 40, [(1, 39)])
        self.refuses(webs_beside, (40, ()), (1, ()))
        self.refuses(webs_beside, (1, ()), (40, ()))
        self.refuses(webs_beside, (20, ()), (21, ()))
        self.is_made(webs_beside(looks.many_ties(2, 119), (2, ((0, 1),))), 4, [(0, 1)] * 119 + [(2, 3)])
        self.is_made(webs_beside((1, ()), looks.many_ties(2, 120)), 3, [(1, 2)] * 120)
        self.refuses(webs_beside, looks.many_ties(2, 120), (2, ((0, 1),)))
        self.refuses(webs_beside, (2, ((0, 1),)), looks.many_ties(2, 120))
        self.refuses(webs_beside, looks.many_ties(40, 120), looks.many_ties(40, 120))


class Copies(Made):

    def test_doubled(self):
        for web in WEBS:
            kept = repr(web)
            if len(web[1]) <= 60:
                self.is_made(doubled_web(web), web[0], list(web[1]) + list(web[1]))
                fewest = fewest_forests(web)[0]
                self.assertIn(fewest_forests(doubled_web(web))[0], (2 * fewest, max(0, 2 * fewest - 1)))
            else:
                self.refuses(doubled_web, web)
            self.assertEqual(repr(web), kept)

    def test_doubled_at_the_edge(self):
        self.is_made(doubled_web(looks.many_ties(2, 60)), 2, [(0, 1)] * 120)
        self.refuses(doubled_web, looks.many_ties(2, 61))
        self.is_made(doubled_web((40, ())), 40, [])

    def test_doubled_needs_both_numbers(self):
        self.assertEqual(fewest_forests(doubled_web((2, ((0, 1),))))[0], 2)
        self.assertEqual(fewest_forests(doubled_web(looks.ring_web(3)))[0], 3)

    def test_copies(self):
        for web in WEBS:
            kept = repr(web)
            for c in (1, 2, 3, 7, 119, 120):
                if len(web[1]) * c <= 120:
                    self.is_made(copies_of(web, c), web[0], [tie for turn in range(c) for tie in web[1]])
                else:
                    self.refuses(copies_of, web, c)
            self.assertEqual(repr(web), kept)

    def test_copies_at_the_edges(self):
        for ties in range(1, 121):
            web = looks.many_ties(2, ties)
            self.assertEqual(copies_of(web, 120 // ties), looks.many_ties(2, 120 // ties * ties))
            if 120 // ties < 120:
                self.refuses(copies_of, web, 120 // ties + 1)
        self.is_made(copies_of((40, ()), 120), 40, [])
        self.is_made(copies_of((2, ((0, 1),)), 120), 2, [(0, 1)] * 120)
        self.refuses(copies_of, (3, ((0, 1), (1, 2))), 61)


class OneTie(Made):

    def test_with_tie(self):
        chance = random.Random(35)
        for web in WEBS:
            kept = repr(web)
            if web[0] > 1 and len(web[1]) < 120:
                a, b = sorted(chance.sample(range(web[0]), 2))
                self.is_made(with_tie(web, a, b), web[0], list(web[1]) + [(a, b)])
                self.is_made(with_tie(web, b, a), web[0], list(web[1]) + [(a, b)])
                self.assertGreaterEqual(fewest_forests(with_tie(web, a, b))[0], fewest_forests(web)[0])
            self.assertEqual(repr(web), kept)

    def test_with_tie_at_the_edge(self):
        self.is_made(with_tie(looks.many_ties(2, 119), 1, 0), 2, [(0, 1)] * 120)
        self.refuses(with_tie, looks.many_ties(2, 120), 0, 1)
        self.refuses(with_tie, looks.many_ties(40, 120), 39, 0)
        self.is_made(with_tie((40, ()), 39, 0), 40, [(0, 39)])

    def test_without_tie(self):
        for web in WEBS:
            kept = repr(web)
            many = len(web[1])
            for tie in {0, many // 2, many - 1} if many else set():
                ties = [ends for number, ends in enumerate(web[1]) if number != tie]
                self.is_made(without_tie(web, tie), web[0], ties)
                self.assertLessEqual(fewest_forests(without_tie(web, tie))[0], fewest_forests(web)[0])
            self.assertEqual(repr(web), kept)

    def test_without_tie_told_in_full(self):
        web = (4, ((0, 1), (1, 2), (2, 3)))
        self.assertEqual(without_tie(web, 0), (4, ((1, 2), (2, 3))))
        self.assertEqual(without_tie(web, 1), (4, ((0, 1), (2, 3))))
        self.assertEqual(without_tie(web, 2), (4, ((0, 1), (1, 2))))
        self.assertEqual(without_tie((2, ((0, 1),)), 0), (2, ()))

    def test_the_tie_put_last_taken_away_again(self):
        for web in WEBS:
            if web[0] > 1 and len(web[1]) < 120:
                self.assertEqual(without_tie(with_tie(web, 1, 0), len(web[1])), web)


if __name__ == "__main__":
    unittest.main()

"""[39] a desk: ties come and go, forests are added and given up."""

import random
import unittest

from fewforests.desk import Desk
from fewforests.errors import NoStep, NoTie, TooFull, TooMany
from tests import looks


def is_too_full(web, k):
    """Of a small web, by all lots."""
    return any(looks.within(web, lot) > k * (len(lot) - 1) for lot in looks.all_lots(web))


class Account:
    """The test's own account of a desk, held against it behind each deed."""

    def __init__(self, case, points, k):
        self.case, self.desk = case, Desk(points, k)
        self.web, self.laying, self.k, self.why, self.moved = (points, ()), (), k, None, 0
        self.held()

    def told(self):
        desk = self.desk
        return (desk.web(), desk.laying(), desk.forests(), desk.why(), desk.moved())

    def held(self):
        own = (self.web, self.laying, self.k, self.why, self.moved)
        self.case.assertEqual(repr(self.told()), repr(own))
        self.case.assertTrue(looks.is_laying(self.web, self.k, self.laying))
        self.case.assertNotIn(None, self.laying)

    def refused(self, error, deed, *arguments):
        with self.case.assertRaises(error) as caught:
            deed(*arguments)
        self.case.assertIs(type(caught.exception), error)
        if error is TooFull:
            self.why = self.desk.why()
        self.held()

    def come(self, a, b, searched=True):
        """A tie comes; tells whether it was laid. The search of the test's own is for small webs."""
        wider = (self.web[0], self.web[1] + ((min(a, b), max(a, b)),))
        tie = len(self.web[1])
        if tie >= 120:
            self.refused(TooMany, self.desk.come, a, b)
            return False
        if searched and is_too_full(wider, self.k):
            self.refused(TooFull, self.desk.come, a, b)
            self.full_lot(wider, self.k)
            self.case.assertTrue({a, b} <= set(self.why))
            return False
        row = self.desk.come(a, b)
        ahead = self.laying + (None,)
        rings = looks.own_rings(wider, self.k, ahead)
        self.case.assertTrue(looks.is_row(wider, self.k, ahead, tie, row, rings))
        self.case.assertEqual(len(row), looks.push_counts(tie, rings)[1])
        self.web, self.laying, self.moved = wider, looks.pushed(ahead, row), self.moved + len(row) - 1
        self.held()
        return True

    def full_lot(self, web, k):
        self.case.assertTrue(looks.is_full(web, k, self.why), (web, k, self.why))

    def go(self, tie):
        self.case.assertIsNone(self.desk.go(tie))
        self.web = (self.web[0], self.web[1][:tie] + self.web[1][tie + 1:])
        self.laying = self.laying[:tie] + self.laying[tie + 1:]
        self.held()

    def more(self):
        if self.k >= 120:
            self.refused(TooMany, self.desk.more)
            return
        self.case.assertIsNone(self.desk.more())
        self.k += 1
        self.held()

    def fewer(self):
        if self.k == 0:
            self.refused(NoStep, self.desk.fewer)
        elif is_too_full(self.web, self.k - 1):
            self.refused(TooFull, self.desk.fewer)
            self.full_lot(self.web, self.k - 1)
        else:
            self.case.assertIsNone(self.desk.fewer())
            self.k -= 1
            # How the ties lie then is not promised, but that they are laid.
            self.laying = self.desk.laying()
            self.held()


class Desks(unittest.TestCase):

    def test_many_deeds(self):
        chance = random.Random(39)
        moved = refused = 0
        for turn in range(200):
            account = Account(self, chance.randint(1, 6), chance.randint(0, 3))
            points = account.web[0]
            for deed in range(40):
                kind = chance.random()
                if kind < 0.65 and points > 1:
                    refused += not account.come(*chance.sample(range(points), 2))
                elif kind < 0.8 and account.web[1]:
                    account.go(chance.randrange(len(account.web[1])))
                elif kind < 0.87:
                    account.more()
                else:
                    account.fewer()
            moved += account.moved
        self.assertGreater(moved, 50)
        self.assertGreater(refused, 300)

    def test_a_long_row(self):
        chance = random.Random(390)
        longest = 0
        for turn in range(30):
            account = Account(self, 8, 2)
            ties = looks.strip(8, turn)[1]
            for a, b in ties:
                ahead = account.moved
                account.come(a, b)
                longest = max(longest, account.moved - ahead + 1)
            account.go(chance.randrange(len(ties)))
            account.come(0, 7) or account.come(2, 5)
        self.assertGreater(longest, 2)

    def test_ties_that_go(self):
        for tie in (0, 3, 6):
            account = Account(self, 4, 3)
            for a, b in ((0, 1), (1, 2), (0, 1), (2, 3), (0, 1), (0, 3), (1, 3)):
                account.come(a, b)
            account.go(tie)
            for thing in (6, 7, -1):
                account.refused(NoTie, account.desk.go, thing)
            while account.web[1]:
                account.go(len(account.web[1]) // 2)
            account.refused(NoTie, account.desk.go, 0)

    def test_by_hand(self):
        desk = Desk(3, 1)
        self.assertEqual((desk.web(), desk.laying(), desk.forests(), desk.why(), desk.moved()), ((3, ()), (), 1, None, 0))
        self.assertEqual(desk.come(1, 0), ((0, 0),))
        self.assertEqual(desk.come(1, 2), ((1, 0),))
        with self.assertRaises(TooFull):
            desk.come(0, 2)
        self.assertEqual(desk.why(), (0, 1, 2))
        with self.assertRaises(TooFull):
            desk.fewer()
        self.assertEqual(desk.forests(), 1)
        desk.more()
        self.assertEqual(desk.come(2, 0), ((2, 1),))
        self.assertEqual(desk.web(), (3, ((0, 1), (1, 2), (0, 2))))
        self.assertEqual(desk.laying(), (0, 0, 1))
        desk.go(1)
        self.assertEqual((desk.web(), desk.laying()), ((3, ((0, 1), (0, 2))), (0, 1)))
        desk.fewer()
        self.assertEqual((desk.laying(), desk.forests()), ((0, 0), 1))
        self.assertEqual(desk.moved(), 0)

    def test_why_stays_till_the_next(self):
        account = Account(self, 4, 1)
        account.come(0, 1)
        account.come(1, 0)
        self.assertEqual(account.why, (0, 1))
        account.come(2, 3)
        account.more()
        account.go(0)
        self.assertEqual(account.desk.why(), (0, 1))
        account.fewer()
        account.come(3, 2)
        self.assertEqual(account.desk.why(), (2, 3))
        account.fewer()
        self.assertTrue(looks.is_full(account.web, 0, account.desk.why()))

    def test_no_forests(self):
        account = Account(self, 3, 0)
        account.come(0, 2)
        self.assertEqual(account.why, (0, 2))
        account.fewer()
        account.more()
        account.come(0, 2)
        account.fewer()
        self.assertEqual((account.k, account.why), (1, (0, 2)))
        account.go(0)
        account.fewer()
        account.fewer()
        self.assertEqual(account.k, 0)

    def test_one_point(self):
        account = Account(self, 1, 1)
        for a in (0, 1, -1):
            account.refused(NoTie, account.desk.come, a, 0)
        account.refused(NoTie, account.desk.go, 0)
        account.fewer()
        account.fewer()
        account.more()

    def test_a_hundred_and_twenty_ties_and_one_more(self):
        account = Account(self, 2, 120)
        for tie in range(120):
            self.assertEqual(account.desk.come(1, 0), ((tie, tie),))
        account.web, account.laying = looks.many_ties(2, 120), tuple(range(120))
        account.held()
        # There are too many ties and there is no room: the refusal named first is given, and ahead of it that of no tie.
        account.come(0, 1)
        account.refused(NoTie, account.desk.come, 0, 0)
        account.refused(NoTie, account.desk.come, 0, 2)
        self.assertIsNone(account.desk.why())
        account.refused(TooMany, account.desk.more)
        account.fewer()
        self.assertEqual(account.why, (0, 1))
        account.go(119)
        account.fewer()
        self.assertEqual(account.k, 119)
        account.refused(TooFull, account.desk.come, 0, 1)

    def test_a_hundred_and_twenty_forests_and_one_more(self):
        account = Account(self, 3, 118)
        for turn in range(4):
            account.more()
        self.assertEqual(account.k, 120)
        for turn in range(122):
            account.fewer()
        self.assertEqual(account.k, 0)

    def test_forty_points(self):
        chance = random.Random(391)
        for k in (3, 4, 120):
            desk = Desk(40, k)
            while len(desk.web()[1]) < 120:
                a, b = chance.sample(range(40), 2)
                ahead = (desk.web(), desk.laying())
                try:
                    row = desk.come(a, b)
                except TooFull:
                    self.assertEqual((desk.web(), desk.laying()), ahead)
                    wider = (40, ahead[0][1] + (tuple(sorted((a, b))),))
                    self.assertTrue(looks.is_full(wider, k, desk.why()) and {a, b} <= set(desk.why()))
                    if chance.random() < 0.1:
                        break
                else:
                    self.assertEqual(desk.laying(), looks.pushed(ahead[1] + (None,), row))
            self.assertTrue(looks.is_laying(desk.web(), k, desk.laying()))
            while True:
                try:
                    desk.fewer()
                except TooFull:
                    self.assertTrue(looks.is_full(desk.web(), desk.forests() - 1, desk.why()))
                    break
                self.assertTrue(looks.is_laying(desk.web(), desk.forests(), desk.laying()))
                self.assertNotIn(None, desk.laying())

    def test_what_goes_away_never_asks_for_more(self):
        chance = random.Random(392)
        for turn in range(20):
            account = Account(self, 5, 6)
            for tie in range(12):
                account.come(*chance.sample(range(5), 2))
            while account.web[1]:
                account.go(chance.randrange(len(account.web[1])))

    def test_anything(self):
        account = Account(self, 3, 2)
        account.come(0, 1)
        for thing in looks.odd_things() + [True, False, "1", (0, 1), [0], {0: 0}, 3, -1, 10 ** 5000]:
            if looks.is_int(thing) and 0 <= thing < 3:
                account.refused(NoTie, account.desk.come, thing, thing)
            else:
                for other in (0, 1, 2, thing, None):
                    account.refused(NoTie, account.desk.come, thing, other)
                    account.refused(NoTie, account.desk.come, other, thing)
            if not (looks.is_int(thing) and thing == 0):
                account.refused(NoTie, account.desk.go, thing)

    def test_two_desks(self):
        first, second = Account(self, 3, 2), Account(self, 3, 2)
        for a, b in ((0, 1), (1, 2), (0, 1), (0, 2), (0, 1)):
            first.come(a, b)
            second.held()
        second.come(1, 2)
        first.held()
        second.more()
        first.go(0)
        first.fewer()
        second.held()
        # What was told ahead is as it was told.
        web, laying = first.desk.web(), first.desk.laying()
        kept = (web, laying)
        first.go(0)
        self.assertEqual((web, laying), kept)

    def test_equal_deeds_are_answered_equally(self):
        chance = random.Random(393)
        deeds = [tuple(chance.sample(range(5), 2)) for turn in range(25)]

        def told():
            desk, answers = Desk(5, 3), []
            for a, b in deeds:
                try:
                    answers.append(desk.come(a, b))
                except TooFull:
                    answers.append(desk.why())
            return answers, desk.web(), desk.laying(), desk.moved()

        self.assertEqual(told(), told())


if __name__ == "__main__":
    unittest.main()

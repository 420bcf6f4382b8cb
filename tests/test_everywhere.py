"""[2] What holds of all functions: nothing handed in is changed, the same question is answered equally again."""

import copy
import inspect
import random
import unittest

from fewforests import layings, lots, partings, webs
from tests import looks

INTERFACE = {
    webs.check: ["thing"],
    webs.ties_within: ["web", "lot"],
    webs.pieces_of: ["web"],
    webs.ringless: ["web", "ties"],
    partings.is_parting: ["web", "thing"],
    partings.ties_between: ["web", "parting"],
    partings.all_partings: ["web"],
    layings.right_laying: ["web", "k", "thing"],
    layings.ring_of: ["web", "laying", "tie", "forest"],
    lots.right_full: ["web", "k", "thing"],
}


def outcome(function, arguments):
    """What is told, or the class of the refusal."""
    try:
        return function(*arguments)
    except ValueError as refusal:
        return type(refusal)


class Everywhere(unittest.TestCase):

    def twice(self, function, *arguments):
        kept = copy.deepcopy(arguments)
        first = copy.deepcopy(outcome(function, arguments))
        self.assertEqual(repr(arguments), repr(kept))
        self.assertEqual(repr(outcome(function, arguments)), repr(first))
        self.assertEqual(repr(outcome(function, kept)), repr(first))

    def test_arguments_are_named_as_in_the_interface(self):
        for function, names in INTERFACE.items():
            self.assertEqual(list(inspect.signature(function).parameters), names)

    def test_anything_is_left_as_it_was(self):
        web = (3, ((0, 1), (0, 1), (1, 2)))
        for thing in looks.odd_things():
            for whole in (thing, [thing, thing], (0, 1, [thing]), (3, ([0, 1], thing)), {0: thing}):
                self.twice(webs.check, whole)
                self.twice(partings.is_parting, web, whole)
                self.twice(layings.right_laying, web, 2, whole)
                self.twice(lots.right_full, web, 1, whole)

    def test_the_same_question_is_answered_equally_again(self):
        chance = random.Random(2)
        for web in looks.NAMED_WEBS + looks.chance_webs(21, 30):
            points = range(web[0])
            lot = tuple(sorted(chance.sample(points, chance.randint(1, web[0]))))
            self.twice(webs.ties_within, web, lot)
            self.twice(webs.pieces_of, web)
            self.twice(webs.ringless, web, tuple(range(len(web[1]))))
            self.twice(partings.ties_between, web, tuple(points))
            self.twice(partings.all_partings, web)
            laying = looks.chance_laying(chance, web, 2)
            for tie in range(len(web[1])):
                if laying[tie] != 1:
                    self.twice(layings.ring_of, web, laying, tie, 1)

    def test_numbers_somewhat_beyond_the_bounds_raise_nothing(self):
        web = (2, ((0, 1),) * 2)
        for k in (-2, -1, 121, 130):
            layings.right_laying(web, k, (0, 1))
            lots.right_full(web, k, (0, 1))


if __name__ == "__main__":
    unittest.main()

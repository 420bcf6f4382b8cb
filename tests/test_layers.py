"""[26] layers with at most one ring in a piece, [27] forests that they are split into."""

import random
import unittest
from itertools import product

from fewforests.layers import layers_of, right_layers, split_layers
from fewforests.layings import right_laying
from fewforests.outward import fewest_outs
from tests import looks


def is_layers(web, d, thing):
    if type(thing) is not tuple or len(thing) != len(web[1]):
        return False
    if not all(looks.is_int(layer) and 0 <= layer < d for layer in thing):
        return False
    return all(is_layer(web, looks.lying(thing, layer)) for layer in set(thing))


def is_layer(web, numbers):
    for piece in set(looks.joined(web, numbers)):
        if len([number for number in numbers if web[1][number][0] in piece]) > len(piece):
            return False
    return True


def rings_of(web, numbers):
    """The rings of ties with at most one in a piece: ties without which the same points are joined, piece by piece."""
    whole = looks.joined(web, numbers)
    rings = {}
    for out in numbers:
        if looks.joined(web, [number for number in numbers if number != out]) == whole:
            rings.setdefault(whole[web[1][out][0]], []).append(out)
    return list(rings.values())


def own_split(web, d, layers):
    laying = list(layers)
    for layer in range(d):
        for ring in rings_of(web, looks.lying(layers, layer)):
            laying[min(ring)] = d + layer
    return tuple(laying)


def chance_layers(chance, web, d):
    """Ties in turned order, each in any layer where it makes no second ring in a piece; None where one fits nowhere."""
    layers = [None] * len(web[1])
    for number in chance.sample(range(len(layers)), len(layers)):
        fitting = [layer for layer in range(d) if is_layer(web, looks.lying(layers, layer) + [number])]
        if not fitting:
            return None
        layers[number] = chance.choice(fitting)
    return tuple(layers)


class RightLayers(unittest.TestCase):

    def same(self, web, d, thing):
        told = right_layers(web, d, thing)
        self.assertIs(told, is_layers(web, d, thing), (web, d, thing))
        return told

    def test_all_tuples_of_small_webs(self):
        found = {True: 0, False: 0}
        for web in looks.chance_webs(26, 40, 4, 6):
            for d in range(3):
                for thing in product(range(d), repeat=len(web[1])):
                    found[self.same(web, d, thing)] += 1
        self.assertGreater(min(found.values()), 50)

    def test_bent(self):
        chance = random.Random(260)
        for web in looks.chance_webs(261, 40, 6, 10):
            for d in (1, 2, 3, 120):
                layers = chance_layers(chance, web, min(d, 4))
                if layers is not None:
                    self.assertIs(right_layers(web, d, layers), True)
                    for thing in looks.bent(layers):
                        self.same(web, d, thing)

    def test_two_rings_in_one_piece(self):
        apart = (6, ((0, 1), (1, 2), (0, 2), (3, 4), (4, 5), (3, 5)))
        self.assertIs(right_layers(apart, 1, (0,) * 6), True)
        bridged = (6, apart[1] + ((2, 3),))
        self.assertIs(right_layers(bridged, 1, (0,) * 7), False)
        self.assertIs(right_layers(bridged, 2, (0,) * 6 + (1,)), True)
        self.assertIs(right_layers(bridged, 2, (1,) + (0,) * 6), True)
        self.assertIs(right_layers((2, ((0, 1),) * 2), 1, (0, 0)), True)
        self.assertIs(right_layers((2, ((0, 1),) * 3), 1, (0, 0, 0)), False)
        self.assertIs(right_layers((5, ((0, 1),) * 3), 1, (0, 0, 0)), False)
        self.assertIs(right_layers((4, ((0, 1), (1, 2), (0, 2), (2, 3), (0, 1))), 1, (0,) * 5), False)
        self.assertIs(right_layers((4, ((0, 1), (0, 1), (2, 3), (2, 3))), 1, (0,) * 4), True)

    def test_edges(self):
        many = looks.many_ties(2, 120)
        self.assertIs(right_layers(many, 60, tuple(range(60)) * 2), True)
        self.assertIs(right_layers(many, 59, tuple(range(60)) * 2), False)
        self.assertIs(right_layers(many, 120, tuple(range(120))), True)
        self.assertIs(right_layers(many, 119, tuple(range(120))), False)
        self.assertIs(right_layers(looks.ring_web(40), 1, (0,) * 40), True)
        self.assertIs(right_layers((40, looks.ring_web(40)[1] + ((0, 1),)), 1, (0,) * 41), False)
        self.assertIs(right_layers((40, ()), 0, ()), True)
        self.assertIs(right_layers((1, ()), 120, ()), True)
        self.assertIs(right_layers((2, ((0, 1),)), 0, (0,)), False)
        for layer in (-1, 2, True, False, None, "0", (0,), [0]):
            self.assertIs(right_layers((3, ((0, 1), (1, 2))), 2, (0, layer)), False)
        self.assertIs(right_layers((3, ((0, 1), (1, 2))), 2, [0, 1]), False)
        self.assertIs(right_layers((3, ((0, 1), (1, 2))), 2, (0,)), False)
        self.assertIs(right_layers((3, ((0, 1), (1, 2))), 2, (0, 1, 1)), False)

    def test_anything(self):
        for thing in looks.odd_things():
            for web in ((1, ()), (2, ((0, 1),)), (3, ((0, 1), (1, 2))), (2, ((0, 1),) * 3)):
                for d in (0, 1, 2, 120):
                    for whole in (thing, (thing,), (thing, 0), (0, thing), (0, 1, thing)):
                        self.same(web, d, whole)


class LayersOf(unittest.TestCase):

    def test_how_many_ties_of_a_lesser_number_go_out_of_the_same_point(self):
        chance = random.Random(262)
        for web in looks.NAMED_WEBS + looks.great_webs() + looks.chance_webs(263, 60, 8, 20):
            for ways in (looks.chance_ways(chance, web), fewest_outs(web)[1]):
                told = layers_of(web, ways)
                self.assertEqual(told, tuple(ways[:tie].count(ways[tie]) for tie in range(len(ways))))
                d = max(looks.outs(web, ways))
                self.assertTrue(is_layers(web, d, told))
                self.assertIs(right_layers(web, d, told), True)

    def test_told_in_full(self):
        self.assertEqual(layers_of((3, ((0, 1), (0, 2), (1, 2), (0, 1))), (0, 0, 1, 0)), (0, 1, 0, 2))
        self.assertEqual(layers_of((3, ((0, 1), (0, 2), (1, 2), (0, 1))), (1, 2, 1, 1)), (0, 0, 1, 2))
        self.assertEqual(layers_of((1, ()), ()), ())
        self.assertEqual(layers_of(looks.many_ties(2, 120), (1,) * 120), tuple(range(120)))


class SplitLayers(unittest.TestCase):

    def splits(self, web, d, layers):
        laying = split_layers(web, d, layers)
        self.assertEqual(laying, own_split(web, d, layers))
        self.assertTrue(looks.is_laying(web, 2 * d, laying))
        self.assertIs(right_laying(web, 2 * d, laying), True)
        self.assertNotIn(None, laying)
        return laying

    def test_drawn_layers(self):
        chance = random.Random(27)
        rings = 0
        for web in looks.NAMED_WEBS + looks.chance_webs(270, 120, 8, 16):
            for d in (0, 1, 2, 3, 60):
                layers = chance_layers(chance, web, d)
                if layers is not None:
                    rings += max(self.splits(web, d, layers), default=0) >= d > 0
        self.assertGreater(rings, 60)

    def test_layers_of_the_fewest_outs(self):
        for web in looks.NAMED_WEBS + looks.great_webs() + looks.chance_webs(271, 40, 10, 30):
            d, ways, lot = fewest_outs(web)
            self.splits(web, d, layers_of(web, ways))

    def test_told_in_full(self):
        self.assertEqual(split_layers(looks.ring_web(4), 1, (0,) * 4), (1, 0, 0, 0))
        self.assertEqual(split_layers(looks.ring_web(4), 2, (1,) * 4), (3, 1, 1, 1))
        self.assertEqual(split_layers((4, ((2, 3), (0, 1), (1, 2), (0, 2))), 1, (0,) * 4), (0, 1, 0, 0))
        self.assertEqual(split_layers((4, ((0, 1), (1, 2), (0, 2), (2, 3))), 2, (1, 1, 1, 0)), (3, 1, 1, 0))
        self.assertEqual(split_layers((4, ((0, 1), (0, 1), (2, 3), (2, 3))), 1, (0,) * 4), (1, 0, 1, 0))
        self.assertEqual(split_layers((4, ((0, 1), (0, 1), (2, 3), (2, 3))), 2, (0, 1, 1, 1)), (0, 1, 3, 1))

    def test_edges(self):
        for points in (1, 40):
            for d in (0, 1, 60):
                self.assertEqual(split_layers((points, ()), d, ()), ())
        many = looks.many_ties(2, 120)
        told = self.splits(many, 60, tuple(range(60)) * 2)
        self.assertEqual(told, tuple(range(60, 120)) + tuple(range(60)))
        self.splits(looks.ring_web(40), 1, (0,) * 40)
        self.assertEqual(split_layers(looks.path_web(40), 60, (59,) * 39), (59,) * 39)


if __name__ == "__main__":
    unittest.main()

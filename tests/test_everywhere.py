"""[2] What holds of all functions: nothing handed in is changed, the same question is answered equally again."""

import copy
import inspect
import random
import unittest

from fewforests import bounds, brims, cheapest, crowd, desk, drawing, even, fewest, layers, layings, lots, made, match
from fewforests import needed, outward, partings, plain, prices, pushing, rooms, roots, rows, shares, standing, strong
from fewforests import texts, thick, trees, ways, webs
from tests import looks

INTERFACE = {
    webs.check: ["thing"],
    webs.ties_within: ["web", "lot"],
    webs.pieces_of: ["web"],
    webs.ringless: ["web", "ties"],
    partings.is_parting: ["web", "thing"],
    partings.ties_between: ["web", "parting"],
    partings.all_partings: ["web"],
    layings.right_laying: ["web", "k", "thing"],
    layings.ring_of: ["web", "laying", "tie", "forest"],
    lots.right_full: ["web", "k", "thing"],
    plain.first_fit: ["web", "k"],
    rows.right_row: ["web", "k", "laying", "tie", "thing"],
    rows.pushed_laying: ["laying", "row"],
    rows.right_levels: ["web", "k", "laying", "tie", "n", "thing"],
    pushing.push_tie: ["web", "k", "laying", "tie"],
    bounds.bound_of: ["web", "k", "parting"],
    bounds.least_bound: ["web", "k"],
    bounds.right_fill: ["web", "k", "thing"],
    bounds.right_needed: ["web", "k", "thing"],
    fewest.fill_forests: ["web", "k"],
    fewest.lay_all: ["web", "k"],
    fewest.fewest_forests: ["web"],
    needed.needed_ties: ["web", "k"],
    trees.right_trees: ["web", "k", "thing"],
    trees.right_thin: ["web", "k", "thing"],
    standing.most_trees: ["web"],
    prices.right_cheapest: ["web", "k", "prices", "thing"],
    made.renamed_web: ["web", "names", "order"],
    made.led_laying: ["laying", "order"],
    made.webs_beside: ["one", "other"],
    made.doubled_web: ["web"],
    made.copies_of: ["web", "c"],
    made.with_tie: ["web", "a", "b"],
    made.without_tie: ["web", "tie"],
    cheapest.cheapest_ties: ["web", "k", "prices"],
    cheapest.stand_ins: ["web", "k", "prices"],
    ways.right_ways: ["web", "d", "thing"],
    ways.right_crowded: ["web", "d", "thing"],
    ways.outs_of: ["web", "ways"],
    outward.fewest_outs: ["web"],
    outward.rooted_ways: ["web", "k", "laying", "root"],
    layers.right_layers: ["web", "d", "thing"],
    layers.layers_of: ["web", "ways"],
    layers.split_layers: ["web", "d", "layers"],
    shares.excess_above: ["web", "ways", "q"],
    shares.right_even: ["web", "root", "thing"],
    even.even_ways: ["web", "root"],
    drawing.inner_web: ["web", "lot"],
    drawing.drawn_web: ["web", "lot"],
    drawing.glued_laying: ["web", "lot", "inside", "outside"],
    rooms.is_tight: ["web", "k", "laying", "lot"],
    rooms.right_rooms: ["web", "k", "laying", "thing"],
    brims.rooms_of: ["web", "k", "laying"],
    brims.brims_of: ["web", "k", "laying"],
    match.Match: ["web", "trees"],
    match.right_match: ["web", "cuts", "thing"],
    texts.web_text: ["web"],
    texts.laying_text: ["laying"],
    texts.read_web: ["thing"],
    texts.read_laying: ["thing"],
    desk.Desk: ["points", "k"],
    thick.right_thick: ["web", "thing"],
    thick.thickness_of: ["web"],
    strong.right_strong: ["web", "thing"],
    strong.strength_of: ["web"],
    crowd.right_crowd: ["web", "thing"],
    crowd.crowd_of: ["web"],
    roots.right_roots: ["web", "k", "laying", "root", "thing"],
    roots.even_roots: ["web", "k", "laying", "root"],
}
METHODS = {
    match.Match: {"cut": ["tie"], "state": [], "cuts": [], "joined": []},
    desk.Desk: {"come": ["a", "b"], "go": ["tie"], "more": [], "fewer": [], "web": [], "laying": [], "forests": [],
                "why": [], "moved": []},
}


def outcome(function, arguments):
    """What is told, or the class of the refusal."""
    try:
        return function(*arguments)
    except ValueError as refusal:
        return type(refusal)


class Everywhere(unittest.TestCase):

    def twice(self, function, *arguments):
        kept = copy.deepcopy(arguments)
        first = copy.deepcopy(outcome(function, arguments))
        self.assertEqual(repr(arguments), repr(kept))
        self.assertEqual(repr(outcome(function, arguments)), repr(first))
        self.assertEqual(repr(outcome(function, kept)), repr(first))

    def test_arguments_are_named_as_in_the_interface(self):
        for function, names in INTERFACE.items():
            self.assertEqual(list(inspect.signature(function).parameters), names)
        for kind, methods in METHODS.items():
            for name, names in methods.items():
                self.assertEqual(list(inspect.signature(vars(kind)[name]).parameters), ["self"] + names)

    def test_anything_is_left_as_it_was(self):
        web = (3, ((0, 1), (0, 1), (1, 2)))
        for thing in looks.odd_things():
            for whole in (thing, [thing, thing], (0, 1, [thing]), (3, ([0, 1], thing)), {0: thing}):
                self.twice(webs.check, whole)
                self.twice(partings.is_parting, web, whole)
                self.twice(layings.right_laying, web, 2, whole)
                self.twice(lots.right_full, web, 1, whole)
                self.twice(rows.right_row, web, 2, (0, None, 0), 1, whole)
                self.twice(rows.right_levels, web, 2, (0, None, 0), 1, 1, whole)
                self.twice(bounds.right_fill, web, 1, whole)
                self.twice(bounds.right_needed, web, 1, whole)
                self.twice(trees.right_trees, web, 1, whole)
                self.twice(trees.right_thin, web, 1, whole)
                self.twice(prices.right_cheapest, web, 1, (0, 0, 0), whole)
                self.twice(ways.right_ways, web, 2, whole)
                self.twice(ways.right_crowded, web, 0, whole)
                self.twice(layers.right_layers, web, 2, whole)
                self.twice(shares.right_even, web, None, whole)
                self.twice(shares.right_even, web, 2, whole)
                self.twice(rooms.right_rooms, web, 2, (0, 1, 0), whole)
                self.twice(match.right_match, web, (), whole)
                self.twice(texts.read_web, whole)
                self.twice(texts.read_laying, whole)
                self.twice(thick.right_thick, web, whole)
                self.twice(strong.right_strong, web, whole)
                self.twice(crowd.right_crowd, web, whole)
                self.twice(roots.right_roots, web, 2, (0, 1, 0), None, whole)
                self.twice(roots.right_roots, web, 2, (0, 1, 0), 2, whole)

    def test_the_same_question_is_answered_equally_again(self):
        chance = random.Random(2)
        for web in looks.NAMED_WEBS + looks.chance_webs(21, 30):
            points = range(web[0])
            lot = tuple(sorted(chance.sample(points, chance.randint(1, web[0]))))
            self.twice(webs.ties_within, web, lot)
            self.twice(webs.pieces_of, web)
            self.twice(webs.ringless, web, tuple(range(len(web[1]))))
            self.twice(partings.ties_between, web, tuple(points))
            self.twice(partings.all_partings, web)
            laying = looks.chance_laying(chance, web, 2)
            for tie in range(len(web[1])):
                if laying[tie] != 1:
                    self.twice(layings.ring_of, web, laying, tie, 1)
                if laying[tie] is None:
                    self.twice(pushing.push_tie, web, 2, laying, tie)
                    self.twice(rows.pushed_laying, laying, ((tie, 0),))
            for k in (0, 1, 2, 120):
                self.twice(plain.first_fit, web, k)
                self.twice(bounds.bound_of, web, k, tuple(points))
                self.twice(bounds.least_bound, web, k)
                self.twice(fewest.fill_forests, web, k)
                self.twice(fewest.lay_all, web, k)
                self.twice(needed.needed_ties, web, k)
                self.twice(cheapest.cheapest_ties, web, k, looks.chance_prices(chance, web, 3))
                self.twice(cheapest.stand_ins, web, k, looks.chance_prices(chance, web, 3))
            self.twice(fewest.fewest_forests, web)
            self.twice(standing.most_trees, web)
            self.twice(made.webs_beside, web, web)
            self.twice(made.doubled_web, web)
            self.twice(made.copies_of, web, 3)
            if web[1]:
                self.twice(made.with_tie, web, 1, 0)
                self.twice(made.without_tie, web, 0)
            order = tuple(range(len(web[1])))[::-1]
            self.twice(made.renamed_web, web, tuple(points)[::-1], order)
            self.twice(made.led_laying, laying, order)
            self.outs_twice(web)

    def outs_twice(self, web):
        self.twice(outward.fewest_outs, web)
        d, told, lot = outward.fewest_outs(web)
        self.twice(ways.outs_of, web, told)
        self.twice(layers.layers_of, web, told)
        self.twice(layers.split_layers, web, d, layers.layers_of(web, told))
        self.twice(shares.excess_above, web, told, 1)
        k, laying, lot = fewest.fewest_forests(web)
        self.twice(outward.rooted_ways, web, k, laying, web[0] - 1)
        self.twice(even.even_ways, web, None)
        self.twice(even.even_ways, web, web[0] - 1)
        self.drawn_twice(web, k, laying)

    def drawn_twice(self, web, k, laying):
        for lot in ((0,), tuple(range(web[0])), (0, web[0] - 1) if web[0] > 1 else (0,)):
            self.twice(drawing.inner_web, web, lot)
            self.twice(drawing.drawn_web, web, lot)
            inside = tuple(laying[number] for number in drawing.inner_web(web, lot)[1])
            outside = tuple(laying[number] for number in drawing.drawn_web(web, lot)[1])
            self.twice(drawing.glued_laying, web, lot, inside, outside)
            self.twice(rooms.is_tight, web, k, laying, lot)
        self.twice(brims.rooms_of, web, k, laying)
        self.twice(brims.brims_of, web, k, laying)
        self.twice(roots.even_roots, web, k, laying, None)
        self.twice(roots.even_roots, web, k, laying, 0)
        self.twice(texts.web_text, web)
        self.twice(texts.read_web, texts.web_text(web))
        self.twice(texts.laying_text, laying)
        self.twice(texts.read_laying, texts.laying_text(laying))
        self.twice(thick.thickness_of, web)
        self.twice(strong.strength_of, web)
        self.twice(crowd.crowd_of, web)

    def test_a_match_leaves_what_it_was_made_of_and_tells_equally_again(self):
        web, trees = (3, ((0, 1), (1, 2), (0, 1), (0, 2), (1, 2))), (0, 0, 1, 1, None)
        kept = copy.deepcopy((web, trees))
        played = match.Match(web, trees)
        for tie in (4, 1, 2):
            played.cut(tie)
            for told in (played.state, played.cuts, played.joined):
                self.assertEqual(repr(told()), repr(told()))
        self.assertEqual((web, trees), kept)

    def test_numbers_somewhat_beyond_the_bounds_raise_nothing(self):
        web = (2, ((0, 1),) * 2)
        for k in (-2, -1, 121, 130):
            layings.right_laying(web, k, (0, 1))
            lots.right_full(web, k, (0, 1))
            plain.first_fit(web, k)
            rows.right_row(web, k, (None, None), 0, ((0, 0),))
            rows.right_levels(web, k, (None, None), 0, 1, (0, 0))
            pushing.push_tie(web, k, (None, None), 0)
            bounds.bound_of(web, k, (0, 1))
            bounds.least_bound(web, k)
            bounds.right_fill(web, k, ((0, None), (0, 0)))
            bounds.right_needed(web, k, ((0, None), (0, 0), ((None, 0), (0, None))))
            fewest.fill_forests(web, k)
            fewest.lay_all(web, k)
            needed.needed_ties(web, k)
            trees.right_trees(web, k, (0, None))
            trees.right_thin(web, k, (0, 1))
            prices.right_cheapest(web, k, (0, 10 ** 9 + 1), ((0, None), (None, (0, 1))))
            cheapest.cheapest_ties(web, k, (0, 10 ** 9 + 1))
            cheapest.stand_ins(web, k, (-1, 5))
            ways.right_ways(web, k, (0, 1))
            ways.right_crowded(web, k, (0, 1))
            layers.right_layers(web, k, (0, 0))
            outward.rooted_ways(web, k, (0, 1), 1)
            shares.excess_above(web, (0, 1), k)
            rooms.is_tight(web, k, (None, None), (0, 1))
            rooms.right_rooms(web, k, (0, 1), ((), (((0, 1), ((2, 2),)),)))
            brims.rooms_of((2, ()), k, ())
            brims.brims_of((2, ()), k, ())
            roots.even_roots((2, ()), k, (), None)
            roots.right_roots((2, ()), k, (), 0, ((), ()))
            desk.Desk(41, k).laying()
        made.copies_of(web, 0)
        for n in (-1, 0, 122, 130):
            rows.right_levels(web, 1, (0, None), 1, n, (1, 0))
        layers.split_layers(web, 61, (60, 60))
        for greater in ((42, ((0, 41),) * 3), (2, ((0, 1),) * 125)):
            webs.pieces_of(greater)
            fewest.fill_forests(greater, 2)
            fewest.lay_all(greater, 125)
            fewest.fewest_forests(greater)
            needed.needed_ties(greater, 2)
            standing.most_trees(greater)
            outward.fewest_outs(greater)
            cheapest.cheapest_ties(greater, 2, (1,) * len(greater[1]))
            even.even_ways(greater, None)
            even.even_ways(greater, 0)
            drawing.inner_web(greater, (0, 1))
            drawing.drawn_web(greater, (0, 1))
            rooms.is_tight(greater, 125, fewest.fewest_forests(greater)[1], (0, 1))
            match.Match(greater, (None,) * len(greater[1])).cut(0)
            texts.web_text(greater)
            texts.laying_text(fewest.fewest_forests(greater)[1] + (120, 130))
            thick.right_thick(greater, (0, 1, (), (0, 1)))
            strong.right_strong(greater, (0, 1, (), (0, 1)))
            crowd.right_crowd(greater, (0, 1, (), (0, 1)))
        wide = desk.Desk(42, 121)
        self.assertEqual(wide.come(41, 0), ((0, 0),))
        wide.fewer()


if __name__ == "__main__":
    unittest.main()

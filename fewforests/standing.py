"""As many trees side by side as can be."""

from fewforests.errors import OnePoint
from fewforests.fewest import fill_forests
from fewforests.partings import parts_of, ties_between
from fewforests.trees import is_all_trees


def most_trees(web):
    """(k, laying, parting): k trees, and a parting that is thin for k + 1; OnePoint of a web with one point."""
    points = web[0]
    if points == 1:
        raise OnePoint("of one point any number of trees can stand")
    parting = tuple(range(points))
    while True:
        k = trees_let(web, parting)
        laying, thinner = fill_forests(web, k)
        if is_all_trees(web, k, laying):
            return (k, laying, parting)
        # The parting whose bound is met by fewer ties than k trees have is thin for k: so it lets fewer stand.
        parting = thinner


def trees_let(web, parting):
    """The greatest number of trees for which a parting of two parts at least is not thin."""
    return ties_between(web, parting) // (parts_of(parting) - 1)

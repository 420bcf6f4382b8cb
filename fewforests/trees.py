"""Trees side by side, and thin partings that let no more stand."""

from fewforests.layings import laid_count, right_laying
from fewforests.partings import is_parting, parts_of, ties_between
from fewforests.webs import ringless


def right_trees(web, k, thing):
    """Whether anything is k trees: a laying in k forests, each of which joins all points."""
    return right_laying(web, k, thing) and is_all_trees(web, k, thing)


def is_all_trees(web, k, laying):
    """Whether each of the k forests of a laying joins all points."""
    # A forest has at most one tie less than there are points, and just so many where it joins them all.
    return laid_count(laying) == k * (web[0] - 1)


def is_tree(web, numbers):
    """Whether the ties with these numbers are a forest that joins all points."""
    return len(numbers) == web[0] - 1 and ringless(web, numbers)


def right_thin(web, k, thing):
    """Whether anything is a parting that is thin for k: then there are no k trees."""
    if not is_parting(web, thing):
        return False
    return ties_between(web, thing) < k * (parts_of(thing) - 1)

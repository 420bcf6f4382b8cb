"""Bounds that partings set to layings, and what is checked with them."""

from fewforests.layings import laid_count, right_laying
from fewforests.partings import all_partings, is_parting, parts_of, ties_between


def bound_of(web, k, parting):
    """The ties between the parts, and k times the points less the parts: no laying in k forests lays more."""
    return ties_between(web, parting) + k * (web[0] - parts_of(parting))


def least_bound(web, k):
    """The least bound of all partings; TooGreat of more than seven points."""
    return min([bound_of(web, k, parting) for parting in all_partings(web)])


def right_fill(web, k, thing):
    """Whether anything is a tuple of a laying in k forests and a parting whose bound it meets."""
    if not isinstance(thing, tuple) or len(thing) != 2:
        return False
    laying, parting = thing
    if not right_laying(web, k, laying) or not is_parting(web, parting):
        return False
    return laid_count(laying) == bound_of(web, k, parting)


def right_needed(web, k, thing):
    """Whether anything tells the ties that all fullest layings lay, and for each other tie one that leaves it out."""
    if not isinstance(thing, tuple) or len(thing) != 3:
        return False
    laying, parting, others = thing
    if not right_fill(web, k, (laying, parting)):
        return False
    if not isinstance(others, tuple) or len(others) != len(web[1]):
        return False
    for tie, other in enumerate(others):
        a, b = web[1][tie]
        if parting[a] != parting[b]:
            if other is not None:
                return False
        elif not leaves_out(web, k, tie, laid_count(laying), other):
            return False
    return True


def leaves_out(web, k, tie, many, thing):
    """Whether anything is a laying in k forests with so many ties laid, this one not among them."""
    return right_laying(web, k, thing) and thing[tie] is None and laid_count(thing) == many

"""Ways of ties: each goes out of one of its ends; and lots that are crowded."""

from fewforests.common import is_number, shares_of
from fewforests.lots import is_lot
from fewforests.webs import ties_within


def right_ways(web, d, thing):
    """Whether anything is ways in which each point has at most d outs."""
    return is_ways(web, thing) and max(outs_of(web, thing)) <= d


def is_ways(web, thing):
    """Whether anything is a tuple with one end of each tie."""
    if not isinstance(thing, tuple) or len(thing) != len(web[1]):
        return False
    return all(is_number(point, a, b) and point in (a, b) for (a, b), point in zip(web[1], thing))


def right_crowded(web, d, thing):
    """Whether anything is a lot that is crowded for d: then there are no ways with at most d outs."""
    return is_lot(web, thing) and ties_within(web, thing) > d * len(thing)


def outs_of(web, ways):
    """How many ties go out of each point."""
    return tuple(shares_of(web[0], ways))

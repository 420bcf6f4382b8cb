"""Lots: rising tuples of points."""

from fewforests.common import is_rising
from fewforests.webs import ties_within


def is_lot(web, thing):
    """Whether anything is a lot of the web's points."""
    return is_rising(thing, web[0] - 1) and len(thing) > 0


def right_full(web, k, thing):
    """Whether anything is a lot that is full for k forests."""
    if not is_lot(web, thing):
        return False
    return ties_within(web, thing) > k * (len(thing) - 1)

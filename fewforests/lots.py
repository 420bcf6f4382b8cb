"""Lots: rising tuples of points."""

from fewforests.common import is_number
from fewforests.webs import ties_within


def is_lot(web, thing):
    """Whether anything is a lot of the web's points."""
    if not isinstance(thing, tuple) or len(thing) == 0:
        return False
    least = 0
    for point in thing:
        if not is_number(point, least, web[0] - 1):
            return False
        least = point + 1
    return True


def right_full(web, k, thing):
    """Whether anything is a lot that is full for k forests."""
    if not is_lot(web, thing):
        return False
    return ties_within(web, thing) > k * (len(thing) - 1)

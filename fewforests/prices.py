"""Prices of ties, lots that are laid tight, and the checker of the cheapest ties."""

from fewforests.layings import right_laying
from fewforests.lots import is_lot


def right_cheapest(web, k, prices, thing):
    """Whether anything is a laying in k forests with, for each left-out tie, a lot that is tight by cheaper ones."""
    if not isinstance(thing, tuple) or len(thing) != 2:
        return False
    laying, reasons = thing
    if not right_laying(web, k, laying):
        return False
    if not isinstance(reasons, tuple) or len(reasons) != len(web[1]):
        return False
    return all(is_reason(web, k, prices, laying, tie, reason) for tie, reason in enumerate(reasons))


def is_reason(web, k, prices, laying, tie, thing):
    """Whether anything is None for a laid tie, for a left-out one a lot with both its ends, tight by cheaper ties."""
    if laying[tie] is not None:
        return thing is None
    a, b = web[1][tie]
    if not is_lot(web, thing) or a not in thing or b not in thing:
        return False
    cheaper = [other for other in range(len(laying)) if is_cheaper(prices, other, tie)]
    return is_tight_by(web, k, laying, thing, cheaper)


def is_cheaper(prices, one, other):
    """Whether one tie is cheaper than another."""
    return cheapness(prices, one) < cheapness(prices, other)


def cheapness(prices, tie):
    """What decides which of two ties is cheaper: the price, then the number."""
    return (prices[tie], tie)


def is_tight_by(web, k, laying, lot, numbers):
    """Whether in each forest as many of these ties lie within the lot as it has points, less one."""
    ties = [web[1][number] for number in numbers if laying[number] is not None]
    inside = [tie for tie in ties if tie[0] in lot and tie[1] in lot]
    # No forest has more of them within, as it has no ring: so all have so many where the sum is right.
    return len(inside) == k * (len(lot) - 1)

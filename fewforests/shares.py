"""How ways share out the ties among the points, and the checker of even ways."""

from fewforests.lots import is_lot
from fewforests.ways import is_ways, led_to, outs_of


def excess_above(web, ways, q):
    """The sum, over all points, of the outs above q."""
    return sum(max(0, outs - q) for outs in outs_of(web, ways))


def right_even(web, root, thing):
    """Whether anything is ways that keep the root, with a lot for each q from 1 to the greatest outs less one."""
    if not isinstance(thing, tuple) or len(thing) != 2:
        return False
    ways, lots = thing
    if not is_ways(web, ways) or root in ways or not isinstance(lots, tuple):
        return False
    if len(lots) != max(0, max(outs_of(web, ways)) - 1):
        return False
    return all(is_closed(web, root, ways, q, lot) for q, lot in enumerate(lots, start=1))


def is_closed(web, root, ways, q, thing):
    """Whether anything is a lot of all points with more than q outs and some with q, left by ties to the root alone."""
    if not is_lot(web, thing):
        return False
    for point, outs in enumerate(outs_of(web, ways)):
        if outs > q and point not in thing or outs < q and point in thing:
            return False
    ends = [led_to(web, ways, tie) for tie, point in enumerate(ways) if point in thing]
    return all(end == root or end in thing for end in ends)

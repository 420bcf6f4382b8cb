"""How ways share out the ties among the points, and the checker of even ways."""

from fewforests.common import shares_of
from fewforests.lots import is_lot
from fewforests.ways import is_ways, outs_of


def excess_above(web, ways, q):
    """The sum, over all points, of the outs above q."""
    return sum(max(0, outs - q) for outs in outs_of(web, ways))


def right_even(web, root, thing):
    """Whether anything is ways that keep the root, with a lot for each q from 1 to the greatest outs less one."""
    if not isinstance(thing, tuple) or len(thing) != 2:
        return False
    ways, lots = thing
    if not is_ways(web, ways) or root in ways:
        return False
    held = [(point, [end for end in tie if end != root]) for point, tie in zip(ways, web[1])]
    return are_closed(web, held, lots)


def are_closed(web, held, thing):
    """Whether anything is a tuple with a closed lot for each q from 1 to the greatest share less one.

    held tells what is shared out: for each thing its holder and all points that might hold it.
    """
    shares = shares_of(web[0], [holder for holder, group in held])
    if not isinstance(thing, tuple) or len(thing) != max(0, max(shares) - 1):
        return False
    return all(is_closed(web, held, shares, q, lot) for q, lot in enumerate(thing, start=1))


def is_closed(web, held, shares, q, thing):
    """Whether anything is a lot of all points with shares above q and some with q, that holds their groups wholly."""
    if not is_lot(web, thing):
        return False
    for point, share in enumerate(shares):
        if share > q and point not in thing or share < q and point in thing:
            return False
    return all(point in thing for holder, group in held if holder in thing for point in group)

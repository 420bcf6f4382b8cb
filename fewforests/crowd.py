"""How crowded a web is: the most ties within a lot by its points."""

from fewforests.common import is_fraction, is_number, lowest_terms
from fewforests.lots import is_lot
from fewforests.made import copies_of
from fewforests.outward import fewest_outs
from fewforests.thick import refuse_great
from fewforests.webs import ties_within


def right_crowd(web, thing):
    """Whether anything is (p, q, units, lot): at most p units out of each point, and a lot that lets no fewer go."""
    if not isinstance(thing, tuple) or len(thing) != 4:
        return False
    p, q, units, lot = thing
    if not is_fraction(p, q) or not is_lot(web, lot):
        return False
    return q * ties_within(web, lot) == p * len(lot) and is_units(web, p, q, units)


def is_units(web, p, q, thing):
    """Whether anything tells for each tie how many of its q units go out of its lesser end, at most p of a point."""
    if not isinstance(thing, tuple) or len(thing) != len(web[1]):
        return False
    if not all(is_number(many, 0, q) for many in thing):
        return False
    outs = [0] * web[0]
    for (a, b), many in zip(web[1], thing):
        outs[a] += many
        outs[b] += q - many
    return max(outs) <= p


def crowd_of(web):
    """(p, q, units, lot): p by q is the crowd; TooGreat beyond 8 points or 15 ties."""
    refuse_great(web)
    lot = tuple(range(web[0]))
    while True:
        p, q = lowest_terms(ties_within(web, lot), len(lot))
        d, ways, crowded = fewest_outs(copies_of(web, q))
        if d <= p:
            return (p, q, units_of(web, ways), lot)
        # A lot that is crowded for p where each tie stands q times is more crowded than p by q.
        lot = crowded


def units_of(web, ways):
    """For each tie how many of its copies go out of its lesser end."""
    many = len(web[1])
    return tuple(ways[tie::many].count(a) for tie, (a, b) in enumerate(web[1]))

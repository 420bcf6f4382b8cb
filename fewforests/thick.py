"""How thick a web is: the most ties within a lot by its points less one."""

from fewforests.common import is_fraction, is_rising, lowest_terms
from fewforests.errors import OnePoint, TooGreat
from fewforests.fewest import lay_all
from fewforests.lots import is_lot
from fewforests.made import copies_of
from fewforests.webs import ringless, ties_within

MOST_POINTS_FOR_FRACTIONS = 8
MOST_TIES_FOR_FRACTIONS = 15


def right_thick(web, thing):
    """Whether anything is (p, q, spread, lot): each tie in q of p forests, and a lot that lets no fewer do."""
    if not isinstance(thing, tuple) or len(thing) != 4:
        return False
    p, q, spread, lot = thing
    if not is_fraction(p, q) or not is_lot(web, lot) or len(lot) < 2:
        return False
    return q * ties_within(web, lot) == p * (len(lot) - 1) and is_spread(web, p, q, spread)


def is_spread(web, p, q, thing):
    """Whether anything tells for each tie q of p forests in which it lies, such that none has a ring."""
    if not isinstance(thing, tuple) or len(thing) != len(web[1]):
        return False
    if not all(is_rising(forests, p - 1) and len(forests) == q for forests in thing):
        return False
    lying = {}
    for number, forests in enumerate(thing):
        for forest in forests:
            lying.setdefault(forest, []).append(number)
    return all(ringless(web, numbers) for numbers in lying.values())


def thickness_of(web):
    """(p, q, spread, lot): p by q is the thickness; TooGreat beyond 8 points or 15 ties, OnePoint of one point."""
    refuse_great(web)
    if web[0] == 1:
        raise OnePoint("a lot of two points at least is asked for")
    lot = tuple(range(web[0]))
    while True:
        p, q = lowest_terms(ties_within(web, lot), len(lot) - 1)
        told = lay_all(copies_of(web, q), p)
        if told[0] == "laid":
            return (p, q, spread_of(web, told[1]), lot)
        # A lot that is full for p forests where each tie stands q times is thicker than p by q.
        lot = told[1]


def spread_of(web, laying):
    """For each tie the forests in which its copies lie."""
    many = len(web[1])
    return tuple(tuple(sorted(laying[tie::many])) for tie in range(many))


def refuse_great(web):
    """Refuses a web of which no fraction is told."""
    if web[0] > MOST_POINTS_FOR_FRACTIONS or len(web[1]) > MOST_TIES_FOR_FRACTIONS:
        raise TooGreat("fractions are told of at most 8 points and 15 ties")

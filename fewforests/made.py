"""Webs made of webs."""

from fewforests.errors import TooGreat
from fewforests.webs import MOST_POINTS, MOST_TIES


def renamed_web(web, names, order):
    """The web in which the tie i is the tie order[i], its ends renamed."""
    points, ties = web
    return (points, tuple(tie_of(names[ties[number][0]], names[ties[number][1]]) for number in order))


def led_laying(laying, order):
    """The entries in this order: of a laying the laying of the renamed web."""
    return tuple(laying[number] for number in order)


def webs_beside(one, other):
    """The web of two webs, the second one's points and ties behind the first one's; TooGreat beyond the bounds."""
    behind = tuple((one[0] + a, one[0] + b) for a, b in other[1])
    return bounded_web(one[0] + other[0], one[1] + behind)


def doubled_web(web):
    """The web with the same ties once more behind them; TooGreat beyond the bounds."""
    return copies_of(web, 2)


def copies_of(web, c):
    """The web with its ties c times, one behind the other; TooGreat beyond the bounds."""
    return bounded_web(web[0], web[1] * c)


def with_tie(web, a, b):
    """The web with a tie of two points, in any order, put last; TooGreat where there are 120."""
    return bounded_web(web[0], web[1] + (tie_of(a, b),))


def without_tie(web, tie):
    """The web without a tie; those behind it have numbers one less."""
    return (web[0], web[1][:tie] + web[1][tie + 1:])


def tie_of(a, b):
    """The tie of two points, the lesser first."""
    return (min(a, b), max(a, b))


def bounded_web(points, ties):
    """The web of these points and ties; TooGreat where there are more than a web may have."""
    if points > MOST_POINTS or len(ties) > MOST_TIES:
        raise TooGreat("a web has at most 40 points and 120 ties")
    return (points, ties)

"""Webs: points, and the ties between them."""

from fewforests.common import is_number, join_points, leader_of
from fewforests.errors import NoWeb

MOST_POINTS = 40
MOST_TIES = 120


def check(thing):
    """True of a web; anything else is refused with NoWeb."""
    if not isinstance(thing, tuple) or len(thing) != 2:
        raise NoWeb("a web is a tuple of its number of points and its ties")
    points, ties = thing
    if not is_number(points, 1, MOST_POINTS):
        raise NoWeb("a web has from 1 to 40 points")
    if not isinstance(ties, tuple) or len(ties) > MOST_TIES:
        raise NoWeb("a web has a tuple of at most 120 ties")
    if not all(is_tie(points, tie) for tie in ties):
        raise NoWeb("a tie is a tuple of two points, the lesser first")
    return True


def is_tie(points, thing):
    """Whether anything is a tie between two of so many points."""
    if not isinstance(thing, tuple) or len(thing) != 2:
        return False
    a, b = thing
    return is_number(b, 0, points - 1) and is_number(a, 0, b - 1)


def ties_within(web, lot):
    """How many ties have both ends in the lot."""
    return sum(1 for a, b in web[1] if a in lot and b in lot)


def pieces_of(web):
    """The greatest lots in which every two points are joined, by their least points."""
    points, ties = web
    leaders = list(range(points))
    for a, b in ties:
        join_points(leaders, a, b)
    pieces = {}
    for point in range(points):
        pieces.setdefault(leader_of(leaders, point), []).append(point)
    return tuple(tuple(piece) for piece in pieces.values())


def ringless(web, ties):
    """Whether the ties with these numbers are a forest."""
    leaders = list(range(web[0]))
    for number in ties:
        a, b = web[1][number]
        if not join_points(leaders, a, b):
            return False
    return True

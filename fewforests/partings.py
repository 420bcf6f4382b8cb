"""Partings: each point is in one part, the parts numbered by their least points."""

from fewforests.common import is_number, join_points, leader_of
from fewforests.errors import TooGreat

MOST_POINTS_FOR_ALL = 7


def is_parting(web, thing):
    """Whether anything is a parting of the web's points."""
    if not isinstance(thing, tuple) or len(thing) != web[0]:
        return False
    parts = 0
    for part in thing:
        if not is_number(part, 0, parts):
            return False
        parts = max(parts, part + 1)
    return True


def ties_between(web, parting):
    """How many ties have their ends in unlike parts."""
    return sum(1 for a, b in web[1] if parting[a] != parting[b])


def all_partings(web):
    """All partings in the order of tuples; TooGreat of more than seven points."""
    points = web[0]
    if points > MOST_POINTS_FOR_ALL:
        raise TooGreat("all partings are told of at most seven points")
    partings = [(0,)]
    for point in range(1, points):
        # Each goes on with the parts it has and with one new part: so the order stays that of tuples.
        partings = [parting + (part,) for parting in partings for part in range(max(parting) + 2)]
    return partings


def parts_of(parting):
    """How many parts there are."""
    return max(parting) + 1


def parting_around(web, lots):
    """The parting with the most parts in which each of these lots is within one part."""
    leaders = list(range(web[0]))
    for lot in lots:
        for point in lot:
            join_points(leaders, lot[0], point)
    parts = {}
    parting = []
    for point in range(web[0]):
        parting.append(parts.setdefault(leader_of(leaders, point), len(parts)))
    return tuple(parting)

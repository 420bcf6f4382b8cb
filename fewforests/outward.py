"""Ways with as few outs as can be, and ways towards the roots of trees."""

from fewforests.layings import hung_forest, ties_by_forest
from fewforests.ways import led_to, outs_of


def fewest_outs(web):
    """(d, ways, lot): ways with at most d outs of each point, and a lot that is crowded for d - 1, None if d is 0."""
    ways = tuple(a for a, b in web[1])
    while True:
        outs = outs_of(web, ways)
        d = max(outs)
        if d == 0:
            return (0, ways, None)
        comers = reached_points(web, ways, outs.index(d))
        roomy = [point for point in comers if outs[point] < d - 1]
        if not roomy:
            # Each tie out of these points is within, each point has d - 1 outs at least, and one has d.
            return (d, ways, tuple(sorted(comers)))
        ways = turned_ways(ways, comers, roomy[0])


def reached_points(web, ways, start):
    """The points that one comes to along the ways, near ones first, each with the tie that leads to it."""
    leaving = [[] for point in range(web[0])]
    for tie, point in enumerate(ways):
        leaving[point].append(tie)
    comers = {start: None}
    waiting = [start]
    at = 0
    while at < len(waiting):
        here = waiting[at]
        at += 1
        for tie in leaving[here]:
            point = led_to(web, ways, tie)
            if point not in comers:
                comers[point] = tie
                waiting.append(point)
    return comers


def turned_ways(ways, comers, goal):
    """The ways with the ties turned that lead from the start to this point: it has one out more, the start one less."""
    turned = list(ways)
    point = goal
    while comers[point] is not None:
        tie = comers[point]
        turned[tie] = point
        point = ways[tie]
    return tuple(turned)


def rooted_ways(web, k, laying, root):
    """The ways of a whole laying in k forests in which each tie goes out of the end that is farther from the root."""
    ways = [None] * len(laying)
    for numbers in ties_by_forest(laying).values():
        for point, (top, depth, above, tie) in enumerate(hung_forest(web, numbers, root)):
            if tie is not None:
                ways[tie] = point
    return tuple(ways)

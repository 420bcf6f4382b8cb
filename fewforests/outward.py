"""Ways with as few outs as can be, and ways towards the roots of trees."""

from fewforests.even import reached_points, turn_groups
from fewforests.layings import hung_forest, ties_by_forest
from fewforests.ways import outs_of


def fewest_outs(web):
    """(d, ways, lot): ways with at most d outs of each point, and a lot that is crowded for d - 1, None if d is 0."""
    points, ties = web
    ways = [a for a, b in ties]
    while True:
        outs = outs_of(web, ways)
        d = max(outs)
        if d == 0:
            return (0, (), None)
        comers = reached_points(points, ties, ways, [outs.index(d)])
        roomy = [point for point in comers if outs[point] < d - 1]
        if not roomy:
            # Each tie out of these points is within, each point has d - 1 outs at least, and one has d.
            return (d, tuple(ways), tuple(sorted(comers)))
        turn_groups(ways, comers, roomy[0])


def rooted_ways(web, k, laying, root):
    """The ways of a whole laying in k forests in which each tie goes out of the end that is farther from the root."""
    ways = [None] * len(laying)
    for numbers in ties_by_forest(laying).values():
        for point, (top, depth, above, tie) in enumerate(hung_forest(web, numbers, root)):
            if tie is not None:
                ways[tie] = point
    return tuple(ways)

"""Even ways, and things of any kind that are shared out evenly among points."""

from fewforests.common import shares_of


def even_ways(web, root):
    """(ways, lots): even ways that keep the root, a point or None, and the lots that tell that they are even."""
    groups = [tuple(end for end in tie if end != root) for tie in web[1]]
    holders = even_holders(web[0], groups)
    return (tuple(holders), closed_lots(web[0], groups, holders))


def even_holders(points, groups):
    """For each group one of its points, its holder, such that the shares of the points are even."""
    holders = first_holders(points, groups)
    while turn_once(points, groups, holders):
        pass
    return holders


def first_holders(points, groups):
    """Each group in its turn is held by the point that has held the fewest so far: so little is left to turn."""
    shares = [0] * points
    holders = []
    for group in groups:
        holder = min(group, key=lambda point: shares[point])
        shares[holder] += 1
        holders.append(holder)
    return holders


def turn_once(points, groups, holders):
    """Turns the groups along a way from a point to one with two fewer; tells whether there was such a way."""
    shares = shares_of(points, holders)
    for start in sorted(range(points), key=lambda point: -shares[point]):
        comers = reached_points(points, groups, holders, [start])
        roomy = [point for point in comers if shares[point] < shares[start] - 1]
        if roomy:
            turn_groups(holders, comers, roomy[0])
            return True
    return False


def turn_groups(holders, comers, goal):
    """Gives each group on the way to the goal to the next point of the way."""
    point = goal
    while comers[point] is not None:
        group = comers[point]
        ahead = holders[group]
        holders[group] = point
        point = ahead


def reached_points(points, groups, holders, starts):
    """The points that one comes to from a holder to the others of its group, each with the group that leads to it."""
    held = [[] for point in range(points)]
    for group, holder in enumerate(holders):
        held[holder].append(group)
    comers = {start: None for start in starts}
    waiting = list(starts)
    at = 0
    while at < len(waiting):
        here = waiting[at]
        at += 1
        for group in held[here]:
            new = [point for point in groups[group] if point not in comers]
            for point in new:
                comers[point] = group
            waiting.extend(new)
    return comers


def closed_lots(points, groups, holders):
    """For each q from 1 to the greatest share less one the points that one comes to from those with more than q."""
    shares = shares_of(points, holders)
    lots = []
    for q in range(1, max(shares)):
        # None of these holds fewer than q, as else groups could be turned along the way to it.
        starts = [point for point in range(points) if shares[point] > q]
        lots.append(tuple(sorted(reached_points(points, groups, holders, starts))))
    return tuple(lots)

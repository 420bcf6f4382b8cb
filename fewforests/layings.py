"""Layings: each tie lies in a forest or is left out, and no forest has a ring."""

from fewforests.common import is_number
from fewforests.webs import ringless

MOST_FORESTS = 120


def right_laying(web, k, thing):
    """Whether anything is a laying of the web in k forests."""
    if not isinstance(thing, tuple) or len(thing) != len(web[1]):
        return False
    if not all(entry is None or is_number(entry, 0, k - 1) for entry in thing):
        return False
    forests = ties_by_forest(thing)
    return all(ringless(web, numbers) for numbers in forests.values())


def ring_of(web, laying, tie, forest):
    """The ring of a tie in a forest, from its lesser end to the greater one; None where it is free there."""
    a, b = web[1][tie]
    numbers = ties_by_forest(laying).get(forest, [])
    return ring_between(hung_forest(web, numbers), a, b)


def laid_count(laying):
    """How many ties are laid."""
    return sum(1 for entry in laying if entry is not None)


def ties_by_forest(laying):
    """The rising numbers of the ties of each forest that has some."""
    forests = {}
    for number, forest in enumerate(laying):
        if forest is not None:
            forests.setdefault(forest, []).append(number)
    return forests


def hung_forest(web, numbers, root=0):
    """For each point (top, depth, point above, tie to it).

    Each tree of a forest hangs from the root where it holds it, else from its least point.
    """
    points, ties = web
    steps = [[] for point in range(points)]
    for number in numbers:
        a, b = ties[number]
        steps[a].append((b, number))
        steps[b].append((a, number))
    hung = [None] * points
    for top in [root] + list(range(points)):
        if hung[top] is None:
            hang_tree(steps, hung, top)
    return hung


def hang_tree(steps, hung, top):
    """Hangs the tree of one top."""
    hung[top] = (top, 0, None, None)
    waiting = [top]
    while waiting:
        point = waiting.pop()
        depth = hung[point][1] + 1
        for other, number in steps[point]:
            if hung[other] is None:
                hung[other] = (top, depth, point, number)
                waiting.append(other)


def ring_between(hung, a, b):
    """The ties that lead from a to b in a hung forest, in order; None where it does not join them."""
    if hung[a][0] != hung[b][0]:
        return None
    ahead = []
    behind = []
    # Whoever is deeper climbs, so the two meet where their ways up first do.
    while a != b:
        if hung[a][1] >= hung[b][1]:
            ahead.append(hung[a][3])
            a = hung[a][2]
        else:
            behind.append(hung[b][3])
            b = hung[b][2]
    return tuple(ahead + behind[::-1])

"""The plain way to lay ties: each where it first fits, and none is ever moved."""

from fewforests.common import join_points


def first_fit(web, k):
    """The laying with each tie in the first forest in which it is free, tie after tie."""
    points, ties = web
    forests = [list(range(points)) for forest in range(k)]
    laying = []
    for a, b in ties:
        laying.append(first_joined(forests, a, b))
    return tuple(laying)


def first_joined(forests, a, b):
    """Joins two points in the first forest in which they are apart: its number, None where there is none."""
    for forest in range(len(forests)):
        if join_points(forests[forest], a, b):
            return forest
    return None

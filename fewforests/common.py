"""What several modules need: numbers within bounds, and points that are joined step by step."""


def is_number(thing, least, most):
    """Whether anything is an int within these bounds."""
    # Python takes True and False for ints; this program does not.
    if not isinstance(thing, int) or isinstance(thing, bool):
        return False
    return least <= thing <= most


def leader_of(leaders, point):
    """The point that stands for all that are joined with this one."""
    while leaders[point] != point:
        # Halving the way keeps later look-ups short.
        leaders[point] = leaders[leaders[point]]
        point = leaders[point]
    return point


def join_points(leaders, a, b):
    """Joins two points; tells whether they were apart before."""
    first = leader_of(leaders, a)
    second = leader_of(leaders, b)
    leaders[second] = first
    return first != second

"""What several modules need: numbers within bounds, fractions, shares, and points that are joined step by step."""

GREATEST_IN_FRACTION = 999


def is_number(thing, least, most):
    """Whether anything is an int within these bounds."""
    # Python takes True and False for ints; this program does not.
    if not isinstance(thing, int) or isinstance(thing, bool):
        return False
    return least <= thing <= most


def is_rising(thing, most):
    """Whether anything is a rising tuple of ints from 0 to most."""
    if not isinstance(thing, tuple):
        return False
    least = 0
    for number in thing:
        if not is_number(number, least, most):
            return False
        least = number + 1
    return True


def is_fraction(p, q):
    """Whether any two things tell a fraction in lowest terms."""
    if not is_number(p, 0, GREATEST_IN_FRACTION) or not is_number(q, 1, GREATEST_IN_FRACTION):
        return False
    return lowest_terms(p, q) == (p, q)


def lowest_terms(p, q):
    """The fraction p by q, told without a common divisor."""
    divisor = q
    rest = p
    while rest > 0:
        divisor, rest = rest, divisor % rest
    return (p // divisor, q // divisor)


def shares_of(points, holders):
    """How many times each point is a holder."""
    shares = [0] * points
    for holder in holders:
        shares[holder] += 1
    return shares


def leader_of(leaders, point):
    """The point that stands for all that are joined with this one."""
    while leaders[point] != point:
        # Halving the way keeps later look-ups short.
        leaders[point] = leaders[leaders[point]]
        point = leaders[point]
    return point


def join_points(leaders, a, b):
    """Joins two points; tells whether they were apart before."""
    first = leader_of(leaders, a)
    second = leader_of(leaders, b)
    leaders[second] = first
    return first != second

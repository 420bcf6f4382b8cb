"""Rows of pushes, and levels that tell that none is shorter."""

from fewforests.common import is_number
from fewforests.layings import hung_forest, right_laying, ring_between, ring_of, ties_by_forest

GREATEST_LEVEL = 121


def right_row(web, k, laying, tie, thing):
    """Whether anything is a row of pushes for this left-out tie of which a laying comes."""
    if not isinstance(thing, tuple) or len(thing) == 0:
        return False
    if not all(is_entry(web, k, entry) for entry in thing):
        return False
    numbers = [number for number, forest in thing]
    if numbers[0] != tie or laying[tie] is not None or len(set(numbers)) != len(numbers):
        return False
    return is_pushed_on(web, laying, thing) and right_laying(web, k, pushed_laying(laying, thing))


def is_entry(web, k, thing):
    """Whether anything is a tuple of a tie and a forest."""
    if not isinstance(thing, tuple) or len(thing) != 2:
        return False
    return is_number(thing[0], 0, len(web[1]) - 1) and is_number(thing[1], 0, k - 1)


def is_pushed_on(web, laying, row):
    """Whether each tie but the first is pushed by the one ahead, and the last is free in its forest."""
    # Neither ring nor free is told of the forest in which a tie lies already.
    if any(laying[number] == forest for number, forest in row):
        return False
    rings = [ring_of(web, laying, number, forest) for number, forest in row]
    for ring, (pushed, forest) in zip(rings, row[1:]):
        if ring is None or pushed not in ring:
            return False
    return rings[-1] is None


def pushed_laying(laying, row):
    """What comes of a row: its ties lie where they stand in it, all others as they were."""
    places = list(laying)
    for number, forest in row:
        places[number] = forest
    return tuple(places)


def right_levels(web, k, laying, tie, n, thing):
    """Whether anything is levels for this left-out tie and n pushes: then no row for it has fewer entries."""
    if not isinstance(thing, tuple) or len(thing) != len(web[1]):
        return False
    if not all(is_number(level, 0, GREATEST_LEVEL) for level in thing) or thing[tie] != 0:
        return False
    pushers = [number for number, forest in enumerate(laying) if number == tie or forest is not None]
    forests = ties_by_forest(laying)
    for forest in range(k):
        hung = hung_forest(web, forests.get(forest, []))
        outside = [number for number in pushers if laying[number] != forest]
        if not all(is_low_enough(web, hung, number, n, thing) for number in outside):
            return False
    return True


def is_low_enough(web, hung, pusher, n, levels):
    """Whether the ties pushed in this forest are at most one level on, or the pusher is free no sooner than it may."""
    a, b = web[1][pusher]
    ring = ring_between(hung, a, b)
    if ring is None:
        return levels[pusher] >= n - 1
    return all(levels[pushed] <= levels[pusher] + 1 for pushed in ring)

"""The search for the shortest row of pushes."""

from fewforests.layings import hung_forest, ring_between, ties_by_forest


def push_tie(web, k, laying, tie):
    """("laid", row, levels) for a left-out tie, or ("full", lot)."""
    pushers = {tie: None}
    last = first_free(web, k, laying, pushers)
    if last is None:
        # Each forest joins what the reached ties join by reached ties alone: so it is a tree on their ends.
        return ("full", ends_of(web, list(pushers)))
    row = row_to(pushers, last)
    return ("laid", row, levels_of(web, pushers, len(row)))


def first_free(web, k, laying, pushers):
    """Goes from push to push, near ties first, to the first tie that is free: it and the forest, None if none is.

    Begins with the left-out ties in pushers, and notes there, for each tie that is reached, the tie that pushes it
    and in which forest.
    """
    numbers = ties_by_forest(laying)
    hung = {}
    waiting = list(pushers)
    at = 0
    while at < len(waiting):
        pusher = waiting[at]
        at += 1
        a, b = web[1][pusher]
        for forest in range(k):
            if laying[pusher] == forest:
                continue
            # A forest is hung when the search first comes to it: most searches end in one of the first.
            if forest not in hung:
                hung[forest] = hung_forest(web, numbers.get(forest, []))
            ring = ring_between(hung[forest], a, b)
            if ring is None:
                return (pusher, forest)
            waiting.extend(newly_reached(pushers, ring, (pusher, forest)))
    return None


def newly_reached(pushers, ring, push):
    """Notes the push for the ties of a ring that were not reached before, and tells them."""
    reached = [pushed for pushed in ring if pushed not in pushers]
    for pushed in reached:
        pushers[pushed] = push
    return reached


def row_to(pushers, last):
    """The row that ends with this tie and forest."""
    row = [last]
    while pushers[row[-1][0]] is not None:
        row.append(pushers[row[-1][0]])
    return tuple(row[::-1])


def levels_of(web, pushers, n):
    """How many pushes lead to each tie; n for those that are not reached, which none does in fewer."""
    levels = {}
    for number, push in pushers.items():
        levels[number] = 0 if push is None else levels[push[0]] + 1
    return tuple(levels.get(number, n) for number in range(len(web[1])))


def ends_of(web, numbers):
    """The lot of all ends of these ties."""
    return tuple(sorted({point for number in numbers for point in web[1][number]}))

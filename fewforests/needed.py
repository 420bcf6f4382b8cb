"""Ties that all layings with the most ties laid lay, and layings that leave out the others."""

from fewforests.fewest import fill_forests
from fewforests.pushing import first_free, row_to
from fewforests.rows import pushed_laying


def needed_ties(web, k):
    """(laying, parting, others): the fullest laying and its parting, and for each tie within a part one without it."""
    laying, parting = fill_forests(web, k)
    pushers = {tie: None for tie, forest in enumerate(laying) if forest is None}
    # Nothing more can be laid, so this finds nothing free: it notes which ties the left-out ones push.
    first_free(web, k, laying, pushers)
    others = tuple(laying_without(laying, pushers, tie) for tie in range(len(laying)))
    return (laying, parting, others)


def laying_without(laying, pushers, tie):
    """What comes of the shortest row that ends with this tie, which is left out; None where no row comes to it."""
    # The left-out ties push just the laid ones within the parts: each lot of their ends is laid tight.
    if tie not in pushers:
        return None
    return pushed_laying(laying, row_to(pushers, (tie, None)))

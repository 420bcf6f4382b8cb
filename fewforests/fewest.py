"""Layings that grow by rows of pushes, one tie after another."""

from fewforests.partings import parting_around
from fewforests.pushing import push_tie
from fewforests.rows import pushed_laying
from fewforests.webs import ties_within


def fill_forests(web, k):
    """(laying, parting): as many ties laid in k forests as can be, and a parting whose bound they meet."""
    laying, lots = fill_in_order(web, k, list(range(len(web[1]))))
    return (laying, parting_around(web, [lot for lot in lots if lot is not None]))


def fill_in_order(web, k, order):
    """(laying, lots): ties laid one after another in this order, and for each left-out one a lot without room."""
    laying = nothing_laid(web)
    lots = [None] * len(web[1])
    for tie in order:
        told = push_tie(web, k, laying, tie)
        if told[0] == "laid":
            laying = pushed_laying(laying, told[1])
        else:
            # What is laid is never left out again, so the lot stays as full as it is now.
            lots[tie] = told[1]
    return (laying, tuple(lots))


def lay_all(web, k):
    """("laid", laying), a whole laying in k forests, or ("full", lot), a lot that is full for k."""
    return lay_rest(web, k, nothing_laid(web))


def lay_rest(web, k, laying):
    """The same, begun with a laying in k forests: its left-out ties are laid one after another."""
    left = [tie for tie, forest in enumerate(laying) if forest is None]
    for tie in left:
        told = push_tie(web, k, laying, tie)
        if told[0] == "full":
            return told
        laying = pushed_laying(laying, told[1])
    return ("laid", laying)


def fewest_forests(web):
    """(k, laying, lot): a whole laying in k forests, and a lot that is full for k - 1, None where k is 0."""
    k = 0
    laying = nothing_laid(web)
    lot = None
    for tie in range(len(web[1])):
        told = push_tie(web, k, laying, tie)
        if told[0] == "full":
            lot = told[1]
            k = forests_asked(web, lot)
            # The forests that were added are empty, so now it is laid.
            told = push_tie(web, k, laying, tie)
        laying = pushed_laying(laying, told[1])
    return (k, laying, lot)


def nothing_laid(web):
    """The laying in which every tie is left out."""
    return (None,) * len(web[1])


def forests_asked(web, lot):
    """The fewest forests for which a lot of two points at least is not full."""
    return -(-ties_within(web, lot) // (len(lot) - 1))

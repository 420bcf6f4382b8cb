"""The cheapest ties that can be laid, and what stands in for each."""

from fewforests.errors import TooGreat
from fewforests.fewest import fill_in_order
from fewforests.made import without_tie
from fewforests.prices import cheapness

MOST_TIES_FOR_STAND_INS = 30


def cheapest_ties(web, k, prices):
    """(laying, reasons): the cheapest ties laid, and for each left-out one a lot that is tight by cheaper ones."""
    return fill_in_order(web, k, sorted(range(len(prices)), key=lambda tie: cheapness(prices, tie)))


def stand_ins(web, k, prices):
    """For each laid tie the one that is laid in its stead where it is gone, -1 where none is; None for the others."""
    if len(web[1]) > MOST_TIES_FOR_STAND_INS:
        raise TooGreat("stand-ins are told of at most 30 ties")
    laying = cheapest_ties(web, k, prices)[0]
    return tuple(stand_in(web, k, prices, laying, tie) for tie in range(len(laying)))


def stand_in(web, k, prices, laying, tie):
    """What stands in for one tie of the cheapest laying."""
    if laying[tie] is None:
        return None
    without = cheapest_ties(without_tie(web, tie), k, prices[:tie] + prices[tie + 1:])[0]
    # With an entry for the tie that is gone the numbers are those of this web again.
    again = without[:tie] + (None,) + without[tie:]
    for number in range(len(laying)):
        if laying[number] is None and again[number] is not None:
            return number
    return -1

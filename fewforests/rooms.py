"""Tight lots, and the checker of where one tie more can be laid."""

from fewforests.lots import is_lot
from fewforests.made import with_tie
from fewforests.prices import is_tight_by
from fewforests.rows import right_row
from fewforests.webs import MOST_TIES, is_tie

MOST_POINTS_FOR_ROOMS = 16


def is_tight(web, k, laying, lot):
    """Whether in each forest as many ties lie within the lot as it has points, less one."""
    return is_tight_by(web, k, laying, lot, list(range(len(laying))))


def right_rooms(web, k, laying, thing):
    """Whether anything is (lots, rows): tight lots, and a row for each two points that no lot holds both."""
    if is_beyond_rooms(web) or not isinstance(thing, tuple) or len(thing) != 2:
        return False
    lots, rows = thing
    if not isinstance(lots, tuple) or not all(is_room(web, k, laying, lot) for lot in lots):
        return False
    pairs = [pair for pair in pairs_of(web) if not is_held(lots, pair)]
    if not isinstance(rows, tuple) or len(rows) != len(pairs):
        return False
    return all(is_row_for(web, k, laying, pair, row) for pair, row in zip(pairs, rows))


def is_beyond_rooms(web):
    """Whether a web has more points than are gone over, or no place for one tie more."""
    return web[0] > MOST_POINTS_FOR_ROOMS or len(web[1]) >= MOST_TIES


def is_room(web, k, laying, thing):
    """Whether anything is a tight lot of two points at least."""
    return is_lot(web, thing) and len(thing) > 1 and is_tight(web, k, laying, thing)


def pairs_of(web):
    """Each two points, the lesser first, rising."""
    return [(a, b) for a in range(web[0]) for b in range(a + 1, web[0])]


def is_held(lots, pair):
    """Whether one of these lots holds both points."""
    return any(pair[0] in lot and pair[1] in lot for lot in lots)


def is_row_for(web, k, laying, pair, thing):
    """Whether anything is these two points and a row of pushes for a tie between them, put last and left out."""
    if not isinstance(thing, tuple) or len(thing) != 2:
        return False
    ends, row = thing
    if not is_tie(web[0], ends) or ends != pair:
        return False
    return right_row(with_tie(web, pair[0], pair[1]), k, laying + (None,), len(laying), row)

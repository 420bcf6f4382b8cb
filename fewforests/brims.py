"""Where one tie more can be laid, and the greatest tight lots, where none can."""

from fewforests.errors import TooGreat
from fewforests.made import with_tie
from fewforests.pushing import push_tie
from fewforests.rooms import is_beyond_rooms, is_held, pairs_of
from fewforests.webs import pieces_of


def rooms_of(web, k, laying):
    """(lots, rows): for each two points a tight lot that holds both, or a row for a tie between them."""
    if is_beyond_rooms(web):
        raise TooGreat("rooms are told of at most 16 points and fewer than 120 ties")
    lots = []
    rows = []
    for pair in pairs_of(web):
        if is_held(lots, pair):
            continue
        told = push_tie(with_tie(web, pair[0], pair[1]), k, laying + (None,), len(laying))
        if told[0] == "laid":
            rows.append((pair, told[1]))
        else:
            lots.append(told[1])
    return (tuple(lots), tuple(rows))


def brims_of(web, k, laying):
    """The greatest tight lots of two points at least, rising."""
    lots = rooms_of(web, k, laying)[0]
    # Tight lots with a point in common are tight together: so the greatest are what the told ones join.
    joins = tuple((lot[0], point) for lot in lots for point in lot[1:])
    return tuple(piece for piece in pieces_of((web[0], joins)) if len(piece) > 1)

"""A match: one hand cuts ties, the other keeps some, and what is kept joins all points in the end."""

from fewforests.common import is_number, is_rising, join_points
from fewforests.errors import NoTie
from fewforests.trees import is_tree

# Where a tie is: in tree ONE or OTHER, with the numbers of their forests, or in one of these, or None.
ONE = 0
OTHER = 1
KEPT = 2
CUT = 3


class Match:
    """A match over a web and two trees of it."""

    def __init__(self, web, trees):
        self.net = web
        self.places = list(trees)

    def cut(self, tie):
        """Cuts a tie; tells the tie that is kept for it, or None. NoTie of what cannot be cut."""
        if not is_number(tie, 0, len(self.places) - 1) or self.places[tie] in (KEPT, CUT):
            raise NoTie("this is no tie that can be cut")
        place = self.places[tie]
        self.places[tie] = CUT
        if place is None:
            return None
        bridge = self.bridge_for(place)
        self.places[bridge] = KEPT
        return bridge

    def bridge_for(self, place):
        """The first tie of the other tree that joins the two sides into which this tree has fallen."""
        leaders = list(range(self.net[0]))
        for number in self.numbers_at(KEPT) + self.numbers_at(place):
            a, b = self.net[1][number]
            join_points(leaders, a, b)
        # Kept ties and the other tree join all points, so one of its ties leads from side to side.
        for number in self.numbers_at(ONE + OTHER - place):
            a, b = self.net[1][number]
            if join_points(leaders, a, b):
                return number
        return None

    def numbers_at(self, place):
        """The rising numbers of the ties in one place."""
        return tuple(number for number, here in enumerate(self.places) if here == place)

    def state(self):
        """(kept, one, other): the ties that were kept, and those of the two trees that are there still."""
        return (self.numbers_at(KEPT), self.numbers_at(ONE), self.numbers_at(OTHER))

    def cuts(self):
        """The ties that were cut."""
        return self.numbers_at(CUT)

    def joined(self):
        """Whether the kept ties join all points."""
        return is_tree(self.net, self.numbers_at(KEPT))


def right_match(web, cuts, thing):
    """Whether anything is (kept, one, other) as a match may have it where these ties are cut."""
    if not isinstance(thing, tuple) or len(thing) != 3:
        return False
    if not all(is_rising(numbers, len(web[1]) - 1) for numbers in thing):
        return False
    kept, one, other = thing
    together = kept + one + other
    if len(set(together)) != len(together) or any(number in cuts for number in together):
        return False
    return is_tree(web, kept + one) and is_tree(web, kept + other)

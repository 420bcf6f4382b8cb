"""A desk: ties come and go, forests are added and given up, and all ties are laid always."""

from fewforests.common import is_number
from fewforests.errors import NoStep, NoTie, TooFull, TooMany
from fewforests.fewest import lay_rest
from fewforests.layings import MOST_FORESTS
from fewforests.made import tie_of, without_tie
from fewforests.pushing import push_tie
from fewforests.rows import pushed_laying
from fewforests.webs import MOST_TIES, is_tie


class Desk:
    """A web that begins without ties, and its whole laying."""

    def __init__(self, points, k):
        self.net = (points, ())
        self.places = ()
        self.many = k
        self.reason = None
        self.pushes = 0

    def come(self, a, b):
        """Lays a new tie by a shortest row of pushes, which is told; NoTie, TooMany or TooFull."""
        points, ties = self.net
        if not is_tie(points, (a, b)) and not is_tie(points, (b, a)):
            raise NoTie("a tie comes between two unlike points")
        if len(ties) >= MOST_TIES:
            raise TooMany("there are 120 ties")
        net = (points, ties + (tie_of(a, b),))
        places = self.places + (None,)
        told = push_tie(net, self.many, places, len(ties))
        if told[0] == "full":
            self.reason = told[1]
            raise TooFull("this tie cannot be laid")
        row = told[1]
        self.net = net
        self.places = pushed_laying(places, row)
        self.pushes += len(row) - 1
        return row

    def go(self, tie):
        """Takes a tie away, all others lie as they lay; NoTie where there is none of this number."""
        if not is_number(tie, 0, len(self.places) - 1):
            raise NoTie("there is no such tie")
        self.net = without_tie(self.net, tie)
        self.places = self.places[:tie] + self.places[tie + 1:]

    def more(self):
        """Adds a forest; TooMany where there are 120."""
        if self.many >= MOST_FORESTS:
            raise TooMany("there are 120 forests")
        self.many += 1

    def fewer(self):
        """Gives up the last forest and lays its ties in the others; NoStep where there is none, or TooFull."""
        if self.many <= 0:
            raise NoStep("there is no forest to give up")
        last = self.many - 1
        told = lay_rest(self.net, last, tuple(None if forest == last else forest for forest in self.places))
        if told[0] == "full":
            self.reason = told[1]
            raise TooFull("the ties cannot be laid in one forest fewer")
        self.many = last
        self.places = told[1]

    def web(self):
        """The web as it is now."""
        return self.net

    def laying(self):
        """Its whole laying."""
        return self.places

    def forests(self):
        """How many forests there are."""
        return self.many

    def why(self):
        """The full lot of the last TooFull, None where none was yet."""
        return self.reason

    def moved(self):
        """How many ties the rows that were told have pushed."""
        return self.pushes

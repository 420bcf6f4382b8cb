"""How strong a web is: the fewest ties between the parts of a parting by the parts less one."""

from fewforests.common import is_fraction, is_rising, lowest_terms
from fewforests.errors import OnePoint
from fewforests.fewest import fill_forests
from fewforests.layings import ties_by_forest
from fewforests.made import copies_of
from fewforests.partings import is_parting, parts_of, ties_between
from fewforests.thick import refuse_great
from fewforests.trees import is_all_trees, is_tree


def right_strong(web, thing):
    """Whether anything is (p, q, trees, parting): p trees, no tie in more than q, and a parting that lets no more."""
    if not isinstance(thing, tuple) or len(thing) != 4:
        return False
    p, q, trees, parting = thing
    if not is_fraction(p, q) or not is_parting(web, parting) or parts_of(parting) < 2:
        return False
    return q * ties_between(web, parting) == p * (parts_of(parting) - 1) and is_stand(web, p, q, trees)


def is_stand(web, p, q, thing):
    """Whether anything is p trees that each join all points, no tie in more than q of them."""
    if not isinstance(thing, tuple) or len(thing) != p:
        return False
    used = [0] * len(web[1])
    for tree in thing:
        if not is_rising(tree, len(web[1]) - 1) or not is_tree(web, tree):
            return False
        for number in tree:
            used[number] += 1
    return all(many <= q for many in used)


def strength_of(web):
    """(p, q, trees, parting): p by q is the strength; TooGreat beyond 8 points or 15 ties, OnePoint of one point."""
    refuse_great(web)
    if web[0] == 1:
        raise OnePoint("a parting of two parts at least is asked for")
    parting = tuple(range(web[0]))
    while True:
        p, q = lowest_terms(ties_between(web, parting), parts_of(parting) - 1)
        copies = copies_of(web, q)
        laying, thinner = fill_forests(copies, p)
        if is_all_trees(copies, p, laying):
            return (p, q, trees_of(web, laying), parting)
        # A parting whose bound fewer ties meet than p trees have is weaker than p by q.
        parting = thinner


def trees_of(web, laying):
    """For each forest of the copies the ties of the web whose copies lie in it."""
    forests = ties_by_forest(laying)
    many = len(web[1])
    return tuple(tuple(sorted([copy % many for copy in forests[forest]])) for forest in sorted(forests))

"""Roots of the trees of a laying, shared out evenly among the points."""

from fewforests.common import is_number
from fewforests.even import closed_lots, even_holders
from fewforests.shares import are_closed
from fewforests.webs import pieces_of


def right_roots(web, k, laying, root, thing):
    """Whether anything is (roots, lots): roots of a whole laying with the told root, and lots that tell them even."""
    if not isinstance(thing, tuple) or len(thing) != 2:
        return False
    roots, lots = thing
    trees = trees_by_forest(web, k, laying)
    if not is_roots(web, trees, root, roots):
        return False
    # The share of the told root does not count: so it holds none here, and no lot may have it.
    held = [(point, tree) for row, forest in zip(roots, trees) for point, tree in zip(row, forest) if point != root]
    return are_closed(web, held, lots)


def trees_by_forest(web, k, laying):
    """For each forest its trees, by their least points."""
    ties = [[] for forest in range(k)]
    for tie, forest in zip(web[1], laying):
        if forest is not None:
            ties[forest].append(tie)
    return [pieces_of((web[0], forest)) for forest in ties]


def is_roots(web, trees, root, thing):
    """Whether anything tells for each tree of each forest one of its points, the told root where it holds it."""
    if not isinstance(thing, tuple) or len(thing) != len(trees):
        return False
    for row, forest in zip(thing, trees):
        if not isinstance(row, tuple) or len(row) != len(forest):
            return False
        if not all(is_root_of(web, tree, root, point) for point, tree in zip(row, forest)):
            return False
    return True


def is_root_of(web, tree, root, thing):
    """Whether anything is a point of a tree, the told root where the tree holds it."""
    if not is_number(thing, 0, web[0] - 1) or thing not in tree:
        return False
    return thing == root or root not in tree


def even_roots(web, k, laying, root):
    """(roots, lots): even roots of a whole laying with the told root, a point or None, and the lots that tell it."""
    trees = trees_by_forest(web, k, laying)
    free = {(forest, at): tree for forest in range(k) for at, tree in enumerate(trees[forest]) if root not in tree}
    groups = list(free.values())
    holders = even_holders(web[0], groups)
    told = dict(zip(free, holders))
    roots = [tuple(told.get((forest, at), root) for at in range(len(trees[forest]))) for forest in range(k)]
    return (tuple(roots), closed_lots(web[0], groups, holders))

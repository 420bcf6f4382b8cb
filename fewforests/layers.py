"""Layers of ties, of which each piece has at most one ring."""

from fewforests.common import is_number, join_points
from fewforests.webs import pieces_of, ties_within


def right_layers(web, d, thing):
    """Whether anything is d layers of the web."""
    if not isinstance(thing, tuple) or len(thing) != len(web[1]):
        return False
    if not all(is_number(layer, 0, d - 1) for layer in thing):
        return False
    return all(is_thinly_ringed((web[0], layer_ties(web, thing, layer))) for layer in sorted(set(thing)))


def layer_ties(web, layers, layer):
    """The ties of one layer."""
    return tuple(tie for tie, entry in zip(web[1], layers) if entry == layer)


def is_thinly_ringed(web):
    """Whether each piece of a web has at most as many ties as points: so at most one ring."""
    return all(ties_within(web, piece) <= len(piece) for piece in pieces_of(web))


def layers_of(web, ways):
    """For each tie how many ties of a lesser number go out of the same point."""
    ahead = [0] * web[0]
    layers = []
    for point in ways:
        layers.append(ahead[point])
        ahead[point] += 1
    return tuple(layers)


def split_layers(web, d, layers):
    """The whole laying in 2 d forests: the least tie of each ring of layer j in forest d + j, the others in j."""
    laying = list(layers)
    leaders = [list(range(web[0])) for layer in range(d)]
    # From the last tie back, a ring is closed by its least one.
    for tie in reversed(range(len(layers))):
        a, b = web[1][tie]
        if not join_points(leaders[layers[tie]], a, b):
            laying[tie] += d
    return tuple(laying)

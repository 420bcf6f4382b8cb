"""The tests' own looks at webs, written apart from the program, and the things they are tried on."""

import random
from itertools import combinations, product


def is_int(thing):
    return type(thing) is int


def joined(web, numbers):
    """For each point the set of points that one comes to along these ties, by walking."""
    points, ties = web
    reach = []
    for start in range(points):
        seen, waiting = {start}, [start]
        while waiting:
            at = waiting.pop()
            for number in numbers:
                a, b = ties[number]
                if at in (a, b):
                    other = a + b - at
                    if other not in seen:
                        seen.add(other)
                        waiting.append(other)
        reach.append(frozenset(seen))
    return reach


def pieces(web):
    reach = joined(web, range(len(web[1])))
    return tuple(tuple(sorted(piece)) for piece in sorted(set(reach), key=min))


def has_ring(web, numbers):
    """By the document's words: one tie could be left out with the same points still joined."""
    whole = joined(web, numbers)
    return any(joined(web, [n for n in numbers if n != out]) == whole for out in numbers)


def is_forest(web, numbers):
    """The same, painted: no tie comes between two points that have one colour already."""
    colours = list(range(web[0]))
    for number in numbers:
        one, other = (colours[end] for end in web[1][number])
        if one == other:
            return False
        colours = [one if colour == other else colour for colour in colours]
    return True


def within(web, lot):
    return len([1 for tie in web[1] if set(tie) <= set(lot)])


def is_lot(web, thing):
    if type(thing) is not tuple or not thing or not all(is_int(point) for point in thing):
        return False
    return list(thing) == sorted(set(thing)) and thing[0] >= 0 and thing[-1] < web[0]


def is_full(web, k, thing):
    return is_lot(web, thing) and within(web, thing) > k * (len(thing) - 1)


def is_parting(web, thing):
    if type(thing) is not tuple or len(thing) != web[0] or not all(is_int(part) for part in thing):
        return False
    firsts = list(dict.fromkeys(thing))
    return firsts == list(range(len(firsts)))


def between(web, parting):
    return len([1 for a, b in web[1] if parting[a] != parting[b]])


def bound(web, k, parting):
    return between(web, parting) + k * (web[0] - len(set(parting)))


def laid(laying):
    return len([1 for entry in laying if entry is not None])


def is_laying(web, k, thing):
    if type(thing) is not tuple or len(thing) != len(web[1]):
        return False
    if not all(entry is None or is_int(entry) and 0 <= entry < k for entry in thing):
        return False
    return all(is_forest(web, lying(thing, forest)) for forest in set(thing) - {None})


def is_fill(web, k, thing):
    if type(thing) is not tuple or len(thing) != 2:
        return False
    if not is_laying(web, k, thing[0]) or not is_parting(web, thing[1]):
        return False
    return laid(thing[0]) == bound(web, k, thing[1])


def is_needed(web, k, thing):
    if type(thing) is not tuple or len(thing) != 3 or not is_fill(web, k, thing[:2]):
        return False
    laying, parting, others = thing
    if type(others) is not tuple or len(others) != len(web[1]):
        return False
    for (a, b), tie, other in zip(web[1], range(len(others)), others):
        if parting[a] != parting[b]:
            right = other is None
        else:
            right = is_laying(web, k, other) and other[tie] is None and laid(other) == laid(laying)
        if not right:
            return False
    return True


def fullest(web, k):
    """All layings with the most ties laid, of a small web."""
    layings = [thing for thing in product([None] + list(range(k)), repeat=len(web[1])) if is_laying(web, k, thing)]
    most = max(laid(laying) for laying in layings)
    return [laying for laying in layings if laid(laying) == most]


def all_lots(web):
    return [lot for size in range(1, web[0] + 1) for lot in combinations(range(web[0]), size)]


def layable(web, k):
    """All sets of ties, told by bits, of which no lot is full for k, of a small web: just these can be laid."""
    rooms = {}
    for lot in all_lots(web):
        inside = sum(1 << number for number, tie in enumerate(web[1]) if set(tie) <= set(lot))
        rooms[inside] = min(rooms.get(inside, 999), k * (len(lot) - 1))
    return [bits for bits in range(1 << len(web[1]))
            if all((bits & inside).bit_count() <= room for inside, room in rooms.items())]


def has_tie(bits, tie):
    return bits >> tie & 1 == 1


def by_price(prices):
    """The ties' numbers in the order of cheapness."""
    return sorted(range(len(prices)), key=lambda tie: (prices[tie], tie))


def is_tight(web, k, laying, lot, numbers):
    """Forest by forest, in the document's words."""
    for forest in range(k):
        inside = [number for number in lying(laying, forest) if number in numbers and set(web[1][number]) <= set(lot)]
        if len(inside) != len(lot) - 1:
            return False
    return True


def is_cheapest(web, k, prices, thing):
    if type(thing) is not tuple or len(thing) != 2 or not is_laying(web, k, thing[0]):
        return False
    laying, reasons = thing
    if type(reasons) is not tuple or len(reasons) != len(web[1]):
        return False
    order = by_price(prices)
    for tie, reason in enumerate(reasons):
        if laying[tie] is not None:
            right = reason is None
        else:
            right = is_lot(web, reason) and set(web[1][tie]) <= set(reason)
            right = right and is_tight(web, k, laying, reason, order[:order.index(tie)])
        if not right:
            return False
    return True


def cheapest_set(web, k, prices):
    """The ties of a small web that are taken one by one in the order of cheapness where they can be laid, as bits."""
    sets = set(layable(web, k))
    bits = 0
    for tie in by_price(prices):
        if bits | 1 << tie in sets:
            bits |= 1 << tie
    return bits


def is_ways(web, thing):
    if type(thing) is not tuple or len(thing) != len(web[1]):
        return False
    return all(is_int(point) and point in tie for point, tie in zip(thing, web[1]))


def outs(web, ways):
    return [ways.count(point) for point in range(web[0])]


def chance_ways(chance, web):
    return tuple(chance.choice(tie) for tie in web[1])


def chance_prices(chance, web, most):
    return tuple(chance.randint(0, most) for tie in web[1])


def lying(laying, forest):
    return [number for number, entry in enumerate(laying) if entry == forest and entry is not None]


def ring(web, laying, tie, forest):
    """The one way along the forest's ties from the lesser end to the greater one, or None."""
    start, goal = web[1][tie]
    numbers = lying(laying, forest)
    ways = [(start, ())]
    while ways:
        at, way = ways.pop()
        if at == goal:
            return way
        for number in numbers:
            if number not in way and at in web[1][number]:
                ways.append((sum(web[1][number]) - at, way + (number,)))
    return None


def own_rings(web, k, laying):
    """The rings, None where free, of each tie in each forest in which it does not lie."""
    pairs = [(tie, forest) for tie in range(len(web[1])) for forest in range(k) if laying[tie] != forest]
    return {pair: ring(web, laying, *pair) for pair in pairs}


def pushed(laying, row):
    places = dict(row)
    return tuple(places.get(number, entry) for number, entry in enumerate(laying))


def is_row(web, k, laying, tie, thing, rings):
    if type(thing) is not tuple or not thing:
        return False
    for entry in thing:
        if type(entry) is not tuple or len(entry) != 2 or not all(is_int(part) for part in entry):
            return False
        if entry not in rings:
            return False
    if thing[0][0] != tie or len(dict(thing)) != len(thing) or rings[thing[-1]] is not None:
        return False
    for ahead, entry in zip(thing, thing[1:]):
        if rings[ahead] is None or entry[0] not in rings[ahead]:
            return False
    return is_laying(web, k, pushed(laying, thing))


def is_levels(web, laying, tie, n, thing, rings):
    if type(thing) is not tuple or len(thing) != len(web[1]):
        return False
    if not all(is_int(level) and 0 <= level <= 121 for level in thing) or thing[tie] != 0:
        return False
    for (pusher, forest), around in rings.items():
        if pusher == tie or laying[pusher] is not None:
            if around is None and thing[pusher] < n - 1:
                return False
            if around is not None and any(thing[other] > thing[pusher] + 1 for other in around):
                return False
    return True


def push_counts(tie, rings):
    """For each tie that pushes lead to, the fewest that do; and the least entries of a row, None where none is."""
    counts, front, shortest = {tie: 0}, [tie], None
    while front:
        behind = []
        for (pusher, forest), around in rings.items():
            if pusher in front:
                if around is None:
                    shortest = min(shortest or 999, counts[pusher] + 1)
                else:
                    behind += [other for other in around if other not in counts]
        counts.update({other: counts[front[0]] + 1 for other in behind})
        front = sorted(set(behind))
    return counts, shortest


def strip(points, order):
    """A strip of triangles, its ties in a drawn order, and last a tie that doubles its first: two forests do."""
    chance = random.Random(order)
    ties = [(at, at + 1) for at in range(points - 1)] + [(at, at + 2) for at in range(points - 2)]
    return (points, tuple(chance.sample(ties, len(ties))) + ((0, 1),))


def chance_web(chance, points, ties):
    """A web with so many ties, drawn by a generator with a told seed."""
    if points == 1:
        return (1, ())
    return (points, tuple(tuple(sorted(chance.sample(range(points), 2))) for tie in range(ties)))


def chance_webs(seed, many, points=6, ties=10):
    chance = random.Random(seed)
    return [chance_web(chance, chance.randint(1, points), chance.randint(0, ties)) for web in range(many)]


def chance_laying(chance, web, k, share=0.9):
    """Ties in turned order, each in any forest that is free for it, or left out by chance."""
    laying = [None] * len(web[1])
    for number in chance.sample(range(len(laying)), len(laying)):
        free = [f for f in range(k) if is_forest(web, sorted(lying(laying, f) + [number]))]
        if free and chance.random() < share:
            laying[number] = chance.choice(free)
    return tuple(laying)


def turned(chance, web):
    """The same web with its ties in another order."""
    return (web[0], tuple(chance.sample(web[1], len(web[1]))))


def ring_web(points):
    return (points, tuple((at, at + 1) for at in range(points - 1)) + ((0, points - 1),))


def path_web(points):
    return (points, tuple((at, at + 1) for at in range(points - 1)))


def star_web(points):
    return (points, tuple((0, at) for at in range(1, points)))


def full_web(points):
    return (points, tuple((a, b) for b in range(points) for a in range(b)))


def many_ties(points, many, ends=(0, 1)):
    return (points, (ends,) * many)


NAMED_WEBS = [
    (1, ()), (2, ()), (40, ()), (2, ((0, 1),)), (40, ((0, 39),)), (40, ((38, 39), (0, 1))),
    many_ties(2, 2), many_ties(2, 7), many_ties(5, 3, (1, 4)),
    ring_web(3), ring_web(8), path_web(7), star_web(7), full_web(4), full_web(5), full_web(6),
    (4, ((0, 1), (0, 1), (2, 3), (2, 3), (2, 3))),
    (5, ((0, 1), (1, 2), (0, 2), (2, 3), (3, 4), (2, 4))),
]


def great_webs():
    """Webs at the edges: forty points, a hundred and twenty ties."""
    chance = random.Random(40120)
    return [
        many_ties(2, 120), many_ties(40, 120, (7, 33)), ring_web(40), path_web(40), star_web(40),
        full_web(16), chance_web(chance, 40, 120), chance_web(chance, 17, 120),
        (40, ring_web(40)[1] * 3), (40, star_web(40)[1] * 3), (40, path_web(40)[1] * 3),
    ]


def deep(wrap, core, depth):
    for layer in range(depth):
        core = wrap(core)
    return core


def odd_things():
    """Things of all kinds that anything may be made of."""
    plain = [None, True, False, 0, 1, 2, -1, 7, 40, 41, 119, 120, 121, 122, 10 ** 40, -10 ** 40]
    texts = ["", "0", "a", "laid", "full", "\n", " ~", "9" * 5000, "points 1\n"]
    nests = [(), [], {}, (0,), [0], {0: 0}, {"a": None}, (None,), (True,), (False,), ("0",), ((),), ([],), ({},),
             (0, 1), (1, 0), [0, 1], (0, 0), (0, None), (0, True), ((0, 1),), [(0, 1)], ((0, 0),), ((0, 1), (0, 1)),
             (0, 1, 2), ((), ()), ((), (), ()), ("laid", ()), ({0: 1}, [2]), (None, None), (None,) * 3]
    wraps = [lambda core: (core,), lambda core: [core], lambda core: {0: core}, lambda core: (core, core)]
    deeps = [deep(wrap, core, depth) for wrap in wraps for core in ((), [], 0, None) for depth in (3, 12)]
    return plain + texts + nests + deeps + [deep(wrap, (), 19) for wrap in wraps[:3]]


def bent(thing, odd=(None, True, False, 0, 1, -1, 121, "0", (), [0], {0: 0}, (0, 1))):
    """The thing bent in one place: other kinds, an entry more, less, twice, turned round, another one."""
    if not isinstance(thing, tuple):
        return [other for other in odd] + ([thing + 1, thing - 1, [thing], (thing,)] if is_int(thing) else [])
    shapes = [list(thing), dict(enumerate(thing)), thing[::-1], thing + (0,), thing + (None,), thing + thing, (thing,)]
    for at, entry in enumerate(thing):
        shapes += [thing[:at] + thing[at + 1:], thing[:at] + (entry,) + thing[at:]]
        shapes += [thing[:at] + (other,) + thing[at + 1:] for other in bent(entry, odd)]
        if at:
            shapes.append(thing[:at - 1] + (entry, thing[at - 1]) + thing[at + 1:])
    return shapes

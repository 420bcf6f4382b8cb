"""The web within a lot, and the web in which a lot is drawn together."""

from fewforests.made import tie_of


def inner_web(web, lot):
    """(web, numbers): the web of the lot's points with the ties within it, and the old numbers of these."""
    places = {point: place for place, point in enumerate(lot)}
    numbers = numbers_within(web, lot)
    return ((len(lot), tuple(moved_tie(web, places, number) for number in numbers)), numbers)


def drawn_web(web, lot):
    """(web, numbers): the web in which the lot is one point, with the ties not within it, and their old numbers."""
    left = [point for point in range(web[0]) if point == lot[0] or point not in lot]
    places = {point: place for place, point in enumerate(left)}
    for point in lot:
        places[point] = places[lot[0]]
    inside = numbers_within(web, lot)
    numbers = tuple(number for number in range(len(web[1])) if number not in inside)
    return ((len(left), tuple(moved_tie(web, places, number) for number in numbers)), numbers)


def numbers_within(web, lot):
    """The numbers of the ties within the lot."""
    return tuple(number for number, (a, b) in enumerate(web[1]) if a in lot and b in lot)


def moved_tie(web, places, number):
    """The tie with its ends at their new places."""
    a, b = web[1][number]
    return tie_of(places[a], places[b])


def glued_laying(web, lot, inside, outside):
    """The laying of the whole web: each tie lies where it lies in the inner web or in the drawn one."""
    laying = [None] * len(web[1])
    for numbers, part in ((inner_web(web, lot)[1], inside), (drawn_web(web, lot)[1], outside)):
        for number, forest in zip(numbers, part):
            laying[number] = forest
    return tuple(laying)

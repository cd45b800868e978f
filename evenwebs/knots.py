"""Knots: places any two of which are tied, counted by their size, and the greatest size."""

from evenwebs.errors import TooMany

MOST_SEARCHED = 25
GREATEST_SIZE = 4


def tied_to(web, place, some):
    return [other for other in some if other in web[place]]


def later_tied_to(web, place, some):
    return [other for other in some if other > place and other in web[place]]


def many_knots(web, size):
    # For each knot of the size so far this keeps the later places that are tied to all of it:
    # so each knot is come upon once, its places in rising order.
    ways_on = [list(range(len(web)))]
    for step in range(size - 1):
        longer = []
        for some in ways_on:
            longer.extend([later_tied_to(web, place, some) for place in some])
        ways_on = longer
    return sum([len(some) for some in ways_on])


def greatest_among(web, some):
    if not some:
        return 0
    # A greatest knot holds the place with most ties here or one that is not tied to it, else it
    # would not be greatest. So few ways are left to try, also where ties are many.
    busiest = max(some, key=lambda place: len(tied_to(web, place, some)))
    tried = [place for place in some if place not in web[busiest]]
    return 1 + max([greatest_among(web, tied_to(web, place, some)) for place in tried])


def greatest_knot(web):
    if len(web) > MOST_SEARCHED:
        raise TooMany("the greatest knot is told of at most 25 places")
    return greatest_among(web, list(range(len(web))))

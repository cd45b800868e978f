"""Webs: what one is, how one is made of pairs, its ties, and the other web of it."""

from evenwebs.errors import NoPlaces
from evenwebs.whole import is_whole_within

MOST_PLACES = 50


def is_place(thing, many):
    return is_whole_within(thing, 0, many - 1)


def are_rising_places(thing, many):
    if not isinstance(thing, tuple):
        return False
    least = 0
    for place in thing:
        if not is_whole_within(place, least, many - 1):
            return False
        least = place + 1
    return True


def is_mutual(rows, one):
    return one not in rows[one] and all([one in rows[other] for other in rows[one]])


def is_web(thing):
    if not isinstance(thing, tuple) or not 1 <= len(thing) <= MOST_PLACES:
        return False
    many = len(thing)
    # Only rows that hold nothing but places may be looked up in one another.
    if not all([are_rising_places(row, many) for row in thing]):
        return False
    return all([is_mutual(thing, one) for one in range(many)])


def is_pair(thing, many):
    if not isinstance(thing, tuple) or len(thing) != 2:
        return False
    return is_place(thing[0], many) and is_place(thing[1], many) and thing[0] != thing[1]


def are_pairs(thing, many):
    return isinstance(thing, list) and all([is_pair(pair, many) for pair in thing])


def row_where(many, one, are_tied):
    return tuple([other for other in range(many) if other != one and are_tied(one, other)])


def web_where(many, are_tied):
    return tuple([row_where(many, one, are_tied) for one in range(many)])


def web_of(many, pairs):
    if not are_pairs(pairs, many):
        raise NoPlaces("the pairs are no list of tuples of two unlike places")
    joined = {}
    for pair in pairs:
        joined[pair] = True
        joined[(pair[1], pair[0])] = True
    return web_where(many, lambda one, other: (one, other) in joined)


def ties(web):
    told = []
    for one, row in enumerate(web):
        told.extend([(one, other) for other in row if one < other])
    return told


def tied(web, one, other):
    # A number below 0 would count from the end, and one beyond has no row.
    return is_place(one, len(web)) and other in web[one]


def other_web(web):
    return web_where(len(web), lambda one, other: other not in web[one])

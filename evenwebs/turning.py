"""Webs turned at places: the turned web, odd threes, and where a web is turned to another or to an even one."""

from evenwebs.errors import NoPlaces
from evenwebs.errors import TooMany
from evenwebs.numbers import is_even
from evenwebs.webs import are_rising_places
from evenwebs.webs import tied
from evenwebs.webs import web_where

MOST_TURNED = 10


def turned_at(web, some):
    if not are_rising_places(some, len(web)):
        raise NoPlaces("a web is turned at a rising tuple of its places")
    return web_where(len(web), lambda one, other: (other in web[one]) != ((one in some) != (other in some)))


def is_odd(web, one, other, third):
    near = [tied(web, one, other), tied(web, one, third), tied(web, other, third)]
    return near.count(True) % 2 == 1


def odd_threes(web):
    many = 0
    for third in range(len(web)):
        for other in range(third):
            many = many + len([one for one in range(other) if is_odd(web, one, other, third)])
    return many


def turn_to(one, other):
    # Place 0 is not among them: so its ties alone tell which ones would be.
    some = tuple([place for place in range(1, len(one)) if tied(one, 0, place) != tied(other, 0, place)])
    return some if turned_at(one, some) == other else None


def all_without_first(many):
    told = [()]
    for place in range(1, many):
        told = told + [some + (place,) for some in told]
    return sorted(told, key=lambda some: (len(some), some))


def even_turns(web):
    if len(web) > MOST_TURNED:
        raise TooMany("turns to an even web are told of at most 10 places")
    return [some for some in all_without_first(len(web)) if is_even(turned_at(web, some))]

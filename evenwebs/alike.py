"""Webs alike: orders that lead one web to another, how many lead a web to itself, webs told unlike."""

from evenwebs.errors import TooMany
from evenwebs.knots import GREATEST_SIZE
from evenwebs.knots import many_knots
from evenwebs.numbers import is_even
from evenwebs.webs import is_place

MOST_LED = 12
MOST_EVEN_LED = 28
MOST_COUNTED = 10
MOST_EVEN_COUNTED = 16


def is_order(thing, many):
    if not isinstance(thing, tuple) or len(thing) != many:
        return False
    # Only what holds nothing but places may go into a set.
    return all([is_place(place, many) for place in thing]) and len(set(thing)) == many


def is_led(one, other, order, place):
    return sorted([order[near] for near in one[place]]) == list(other[order[place]])


def leads(one, other, thing):
    if len(one) != len(other) or not is_order(thing, len(one)):
        return False
    return all([is_led(one, other, thing, place) for place in range(len(one))])


def moved_on(row, many):
    return tuple([many + place for place in row])


def side_by_side(one, other):
    # As one web, so that the places of both are coloured by the same rule.
    return one + tuple([moved_on(row, len(one)) for row in other])


def look_of(both, colours, place):
    return (colours[place], tuple(sorted([colours[near] for near in both[place]])))


def finer_colours(both, colours):
    looks = [look_of(both, colours, place) for place in range(len(both))]
    numbered = {}
    for number, look in enumerate(sorted(set(looks))):
        numbered[look] = number
    return [numbered[look] for look in looks]


def are_shared(colours):
    many = len(colours) // 2
    return sorted(colours[:many]) == sorted(colours[many:])


def finest_colours(both, colours):
    # An order that keeps the colours keeps the finer ones too: so they may be made finer until
    # they stay, and where the two webs don't share them no order is lost.
    coarse = colours
    fine = finer_colours(both, coarse)
    while are_shared(fine) and len(set(fine)) > len(set(coarse)):
        coarse = fine
        fine = finer_colours(both, coarse)
    return fine


def set_apart(colours, one, other):
    fresh = max(colours) + 1
    return [fresh if place in (one, other) else colour for place, colour in enumerate(colours)]


def are_twins(web, one, other):
    return [near for near in web[one] if near != other] == [near for near in web[other] if near != one]


def first_open(both, colours):
    # Twins may change places in any order that leads there: of a colour whose places are all
    # twins nothing has to be tried.
    many = len(both) // 2
    for one in range(many):
        if not all([are_twins(both, one, other) for other in range(many) if colours[other] == colours[one]]):
            return one
    return None


def order_by(colours):
    # Least to least, which is the first order of all that keep the colours.
    many = len(colours) // 2
    order = []
    for place in range(many):
        there = [other for other in range(many) if colours[many + other] == colours[place]]
        order.append(min([other for other in there if other not in order]))
    return tuple(order)


def first_order(both, colours):
    fine = finest_colours(both, colours)
    if not are_shared(fine):
        return None
    one = first_open(both, fine)
    if one is None:
        return order_by(fine)
    # Nothing is open ahead of this place: led to the least place that it can be, it makes the order first.
    for other in range(len(both) // 2, len(both)):
        if fine[other] == fine[one]:
            order = first_order(both, set_apart(fine, one, other))
            if order is not None:
                return order
    return None


def require_few(web, most, most_even):
    if len(web) > most_even or (len(web) > most and not is_even(web)):
        raise TooMany("the web has too many places")


def order_to(one, other):
    require_few(one, MOST_LED, MOST_EVEN_LED)
    require_few(other, MOST_LED, MOST_EVEN_LED)
    if len(one) != len(other):
        return None
    return first_order(side_by_side(one, other), [0] * (2 * len(one)))


def many_orders(web):
    require_few(web, MOST_COUNTED, MOST_EVEN_COUNTED)
    many = len(web)
    both = side_by_side(web, web)
    colours = [0] * (2 * many)
    product = 1
    for place in range(many):
        # Among the orders that leave all places ahead of this one where they are, as many lead
        # it to one place as to any other that it can be led to.
        tried = [set_apart(colours, place, many + there) for there in range(many)]
        product = product * len([each for each in tried if first_order(both, each) is not None])
        colours = tried[place]
    return product


def alike(one, other):
    for size in range(1, GREATEST_SIZE + 1):
        mine = many_knots(one, size)
        theirs = many_knots(other, size)
        if mine != theirs:
            return ("knots", size, mine, theirs)
    order = order_to(one, other)
    return ("none",) if order is None else ("order", order)

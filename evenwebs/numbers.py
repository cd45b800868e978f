"""Numbers of even webs: whether a web is even, papers that it is not, and what may be numbers."""

from evenwebs.errors import NoNumbers
from evenwebs.webs import is_place
from evenwebs.webs import other_web
from evenwebs.webs import tied
from evenwebs.webs import ties
from evenwebs.whole import is_whole_within

MOST_COUNTED = 100


def common(web, one, other):
    return len(set(web[one]) & set(web[other]))


def first_unlike_place(web):
    for place, row in enumerate(web):
        if len(row) != len(web[0]):
            return place
    return None


def shared_by_all(web, pairs):
    return common(web, pairs[0][0], pairs[0][1]) if pairs else None


def first_unlike_pair(web, pairs):
    shared = shared_by_all(web, pairs)
    for pair in pairs:
        if common(web, pair[0], pair[1]) != shared:
            return pair
    return None


def evenness(web):
    place = first_unlike_place(web)
    if place is not None:
        return ("place", place)
    near = ties(web)
    far = ties(other_web(web))
    for word, pairs in (("tied", near), ("apart", far)):
        pair = first_unlike_pair(web, pairs)
        if pair is not None:
            return (word, pair[0], pair[1])
    return ("even", (len(web), len(web[0]), shared_by_all(web, near), shared_by_all(web, far)))


def is_even(web):
    return evenness(web)[0] == "even"


def is_pair_as(web, word, one, other):
    if word == "tied":
        return tied(web, one, other)
    return word == "apart" and one != other and not tied(web, one, other)


def shows_uneven(web, thing):
    if not isinstance(thing, tuple) or not all([is_place(place, len(web)) for place in thing[1:]]):
        return False
    if len(thing) == 3:
        return thing[0] == "place" and len(web[thing[1]]) != len(web[thing[2]])
    if len(thing) != 5:
        return False
    if not is_pair_as(web, thing[0], thing[1], thing[2]) or not is_pair_as(web, thing[0], thing[3], thing[4]):
        return False
    return common(web, thing[1], thing[2]) != common(web, thing[3], thing[4])


def is_shared(thing, most, has_pairs):
    # Where there is no pair at all, no number can be told of what pairs share.
    if not has_pairs:
        return thing is None
    return is_whole_within(thing, 0, most)


def may_be_numbers(thing):
    if not isinstance(thing, tuple) or len(thing) != 4 or not is_whole_within(thing[0], 1, MOST_COUNTED):
        return False
    most = thing[0] - 1
    if not is_whole_within(thing[1], 0, most):
        return False
    return is_shared(thing[2], thing[1] - 1, thing[1] != 0) and is_shared(thing[3], thing[1], thing[1] != most)


def other_numbers(numbers):
    if not may_be_numbers(numbers):
        raise NoNumbers("these may not be numbers of a web")
    n = numbers[0]
    k = numbers[1]
    near = None if numbers[3] is None else n - 2 * k - 2 + numbers[3]
    far = None if numbers[2] is None else n - 2 * k + numbers[2]
    return (n, n - k - 1, near, far)

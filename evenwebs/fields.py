"""Fields of 2 to 49 things: reckoning in them, their squares, roots and makers, and their webs."""

from evenwebs.errors import NoField
from evenwebs.errors import NoThing
from evenwebs.webs import web_where
from evenwebs.whole import is_whole
from evenwebs.whole import is_whole_within

# By q: p, m and the number of the form. They are written out, not searched for, because
# every product needs them and nothing is kept from one question to the next.
FIELDS = {
    2: (2, 1, 0), 3: (3, 1, 0), 4: (2, 2, 3), 5: (5, 1, 0), 7: (7, 1, 0), 8: (2, 3, 3), 9: (3, 2, 1),
    11: (11, 1, 0), 13: (13, 1, 0), 16: (2, 4, 3), 17: (17, 1, 0), 19: (19, 1, 0), 23: (23, 1, 0),
    25: (5, 2, 2), 27: (3, 3, 7), 29: (29, 1, 0), 31: (31, 1, 0), 32: (2, 5, 5), 37: (37, 1, 0),
    41: (41, 1, 0), 43: (43, 1, 0), 47: (47, 1, 0), 49: (7, 2, 1),
}


def is_field(thing):
    return is_whole(thing) and thing in FIELDS


def require_field(thing):
    if not is_field(thing):
        raise NoField("there is no such field")


def require_things(q, things):
    require_field(q)
    for thing in things:
        if not is_whole_within(thing, 0, q - 1):
            raise NoThing("the field has no such thing")


def form_of(q):
    require_field(q)
    return FIELDS[q][2]


def row_of(q, number):
    p = FIELDS[q][0]
    row = []
    left = number
    for power in range(FIELDS[q][1]):
        row.append(left % p)
        left = left // p
    return row


def number_of(q, row):
    p = FIELDS[q][0]
    number = 0
    for digit in reversed(row):
        number = number * p + digit % p
    return number


def added(q, one, other):
    require_things(q, (one, other))
    return number_of(q, [x + y for x, y in zip(row_of(q, one), row_of(q, other))])


def taken(q, one, other):
    require_things(q, (one, other))
    return number_of(q, [x - y for x, y in zip(row_of(q, one), row_of(q, other))])


def times_letter(q, row):
    # The last digit goes up to t ** m, which is nought less the form's low row.
    low = row_of(q, FIELDS[q][2])
    return [below - row[-1] * digit for below, digit in zip([0] + row, low)]


def multiplied(q, one, other):
    require_things(q, (one, other))
    row = row_of(q, other)
    product = [0] * len(row)
    for digit in reversed(row_of(q, one)):
        product = [x + digit * y for x, y in zip(times_letter(q, product), row)]
    return number_of(q, product)


def divided(q, one, other):
    require_things(q, (one, other))
    if other == 0:
        raise NoThing("nothing is divided by 0")
    # A thing times its own power of q - 2 is its power of q - 1, which is 1.
    return multiplied(q, one, raised(q, other, q - 2))


def raised(q, one, often):
    require_things(q, (one,))
    if one == 0:
        return 1 if often == 0 else 0
    product = 1
    # The power of q - 1 is 1 again, so that only the rest of so many times counts.
    for step in range(often % (q - 1)):
        product = multiplied(q, product, one)
    return product


def squares_in(q):
    require_field(q)
    return sorted(set([multiplied(q, thing, thing) for thing in range(1, q)]))


def root_in(q, one):
    require_things(q, (one,))
    for thing in range(q):
        if multiplied(q, thing, thing) == one:
            return thing
    return None


def is_maker(q, thing):
    powers = [1]
    for step in range(q - 2):
        powers.append(multiplied(q, powers[-1], thing))
    return len(set(powers)) == q - 1


def maker(q):
    require_field(q)
    return min([thing for thing in range(1, q) if is_maker(q, thing)])


def field_web(q):
    require_field(q)
    if q % 4 != 1:
        raise NoField("only a field whose q leaves 1 when divided by 4 has a web")
    squares = squares_in(q)
    return web_where(q, lambda one, other: taken(q, one, other) in squares)

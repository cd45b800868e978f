"""Tables of numbers: what one is, what bars it, its worths, and all that nothing bars."""

from evenwebs.errors import NoNumbers
from evenwebs.numbers import MOST_COUNTED
from evenwebs.numbers import other_numbers
from evenwebs.whole import is_whole_within
from evenwebs.whole import root_of

LEAST_PLACES = 3
MOST_LISTED = 60


def is_table(thing):
    if not isinstance(thing, tuple) or len(thing) != 4:
        return False
    if not is_whole_within(thing[0], LEAST_PLACES, MOST_COUNTED) or not is_whole_within(thing[1], 1, thing[0] - 2):
        return False
    return is_whole_within(thing[2], 0, thing[1] - 1) and is_whole_within(thing[3], 0, thing[1])


def require_table(thing):
    if not is_table(thing):
        raise NoNumbers("this is no table")


def turned_table(table):
    require_table(table)
    turned = other_numbers(table)
    if min(turned) < 0:
        raise NoNumbers("the turned table would have a number below 0")
    return turned


def d_of(table):
    leap = table[2] - table[3]
    return leap * leap + 4 * (table[1] - table[3])


def e_of(table):
    return 2 * table[1] + (table[0] - 1) * (table[2] - table[3])


def leaning_of(table):
    # This is e / w. Where e is 0 it is 0 whatever w is, so d need be no square.
    e = e_of(table)
    if e == 0:
        return 0
    w = root_of(d_of(table))
    if w is None or e % w != 0:
        return None
    return e // w


def times_of(table):
    # Both times are whole just where e / w is whole and as odd as n - 1.
    leaning = leaning_of(table)
    rest = table[0] - 1
    if leaning is None or (rest - leaning) % 2 != 0 or abs(leaning) > rest:
        return None
    return ((rest - leaning) // 2, (rest + leaning) // 2)


def whole_worths(table, w):
    # w is as odd as a - b, so that both halves are whole.
    leap = table[2] - table[3]
    return ((leap + w) // 2, (leap - w) // 2)


def bar_of_room(table):
    turned = other_numbers(table)
    for left in (turned[3], turned[2]):
        if left < 0:
            return ("room", left)
    return None


def bar_of_counting(table):
    one = table[1] * (table[1] - table[2] - 1)
    other = (table[0] - table[1] - 1) * table[3]
    return ("counting", one, other) if one != other else None


def bar_of_sums(table):
    return ("sums", d_of(table), e_of(table)) if times_of(table) is None else None


def is_product_above(k, one, other):
    return (one + 1) * (k + one + 2 * one * other) > (k + one) * (other + 1) * (other + 1)


def bar_of_products(table):
    w = root_of(d_of(table))
    if w is None:
        return None
    found = whole_worths(table, w)
    if is_product_above(table[1], found[0], found[1]):
        return ("products", 1)
    if is_product_above(table[1], found[1], found[0]):
        return ("products", 2)
    return None


def bar_of_threes(table):
    if not 0 < table[3] < table[1]:
        return None
    # What the sums bar never comes here, so both times are there.
    for times in times_of(table):
        if 2 * table[0] > times * (times + 3):
            return ("threes", times)
    return None


def is_sum_of_two_squares(number):
    return any([root_of(number - one * one) is not None for one in range(number + 1)])


def bar_of_squares(table):
    if e_of(table) == 0 and not is_sum_of_two_squares(table[0]):
        return ("squares", table[0])
    return None


BARS = (bar_of_room, bar_of_counting, bar_of_sums, bar_of_products, bar_of_threes, bar_of_squares)


def barred(table):
    require_table(table)
    for bar in BARS:
        found = bar(table)
        if found is not None:
            return found
    return None


def worths(table):
    if barred(table) is not None:
        raise NoNumbers("a barred table has no worths")
    times = times_of(table)
    w = root_of(d_of(table))
    if w is None:
        return ("root", d_of(table), times[0])
    found = whole_worths(table, w)
    return ("whole", found[0], times[0], found[1], times[1])


def tables_of(n):
    if not is_whole_within(n, LEAST_PLACES, MOST_LISTED):
        raise NoNumbers("tables are told of 3 to 60 places")
    told = []
    for k in range(1, n - 1):
        for a in range(k):
            # Any other b is barred by the counting; where this one is no quotient, it is too.
            table = (n, k, a, k * (k - a - 1) // (n - k - 1))
            if is_table(table) and barred(table) is None:
                told.append(table)
    return told

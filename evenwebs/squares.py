"""Squares of signs: which lie across, their cuts, and the webs of nets and of pairs."""

from evenwebs.errors import NoField
from evenwebs.errors import NoSquare
from evenwebs.errors import TooMany
from evenwebs.fields import added
from evenwebs.fields import is_field
from evenwebs.fields import multiplied
from evenwebs.webs import web_where
from evenwebs.whole import is_whole_within

MOST_SIGNS = 7
MOST_CROSSED = 5
LEAST_IN_NET = 2
LEAST_PAIRED = 3
MOST_PAIRED = 10


def holds_each_once(thing, many):
    if not isinstance(thing, tuple) or len(thing) != many:
        return False
    return all([is_whole_within(sign, 0, many - 1) for sign in thing]) and len(set(thing)) == many


def column_of(rows, y):
    return tuple([row[y] for row in rows])


def is_square(thing):
    if not isinstance(thing, tuple) or not 1 <= len(thing) <= MOST_SIGNS:
        return False
    many = len(thing)
    # Only where all rows are as long as they should be are there columns to look at.
    if not all([holds_each_once(row, many) for row in thing]):
        return False
    return all([holds_each_once(column_of(thing, y), many) for y in range(many)])


def require_square(thing):
    if not is_square(thing):
        raise NoSquare("this is no square of signs")


def sign_in(square, cell):
    return square[cell // len(square)][cell % len(square)]


def lie_across(one, other):
    cells = len(one) * len(one)
    # There are as many pairs of signs as cells: each stands once just where none stands twice.
    return len(set([(sign_in(one, cell), sign_in(other, cell)) for cell in range(cells)])) == cells


def across(one, other):
    require_square(one)
    require_square(other)
    if len(one) != len(other):
        raise NoSquare("the two squares have unlike many signs")
    return lie_across(one, other)


def can_go_on(square, cut, column):
    signs = [row[place] for row, place in zip(square, cut)]
    return column not in cut and square[len(cut)][column] not in signs


def cuts(square):
    require_square(square)
    found = [()]
    for row in square:
        longer = []
        for cut in found:
            longer.extend([cut + (column,) for column in range(len(row)) if can_go_on(square, cut, column)])
        found = longer
    return found


def agree_somewhere(one, other):
    return any([x == y for x, y in zip(one, other)])


def with_one_more(choices, more):
    longer = []
    for chosen in choices:
        for cut in more:
            if not any([agree_somewhere(cut, each) for each in chosen]):
                longer.append(chosen + [cut])
    return longer


def signs_where(columns):
    return tuple([columns.index(y) for y in range(len(columns))])


def square_of_cuts(chosen):
    return tuple([signs_where(column_of(chosen, x)) for x in range(len(chosen))])


def some_across(square):
    require_square(square)
    if len(square) > MOST_CROSSED:
        raise TooMany("squares that lie across are told of at most 5 signs")
    # Where a sign of the other square stands is a cut of this one; its signs may be called
    # so that in its first row each stands in the column of its own number.
    found = cuts(square)
    choices = [[]]
    for sign in range(len(square)):
        choices = with_one_more(choices, [cut for cut in found if cut[0] == sign])
    return square_of_cuts(choices[0]) if choices else None


def field_row(q, factor, x):
    return tuple([added(q, multiplied(q, factor, x), y) for y in range(q)])


def field_square(q, factor):
    return tuple([field_row(q, factor, x) for x in range(q)])


def field_squares(q):
    if not is_field(q) or q > MOST_SIGNS:
        raise NoField("only a field of at most 7 things gives squares")
    return [field_square(q, factor) for factor in range(1, q)]


def are_each_two_across(squares):
    for number, square in enumerate(squares):
        if not all([lie_across(square, other) for other in squares[:number]]):
            return False
    return True


def is_net(n, thing):
    if not is_whole_within(n, LEAST_IN_NET, MOST_SIGNS) or not isinstance(thing, list) or len(thing) > n - 1:
        return False
    return all([is_square(square) and len(square) == n for square in thing]) and are_each_two_across(thing)


def require_net(n, thing):
    if not is_net(n, thing):
        raise NoSquare("this is no net of so many signs")


def lines_through(n, squares, cell):
    return [cell // n, cell % n] + [sign_in(square, cell) for square in squares]


def net_web(n, squares):
    require_net(n, squares)
    lines = [lines_through(n, squares, cell) for cell in range(n * n)]
    return web_where(n * n, lambda one, other: agree_somewhere(lines[one], lines[other]))


def net_numbers(n, squares):
    require_net(n, squares)
    g = len(squares) + 2
    # With n + 1 kinds of lines any two cells are tied, and none are left to tell b of.
    b = None if g == n + 1 else g * (g - 1)
    return (n * n, g * (n - 1), n - 2 + (g - 1) * (g - 2), b)


def pairs_web(m):
    if not is_whole_within(m, LEAST_PAIRED, MOST_PAIRED):
        raise NoSquare("pairs are told out of 3 to 10 things")
    pairs = []
    for x in range(m):
        pairs.extend([(x, y) for y in range(x + 1, m)])
    return web_where(len(pairs), lambda one, other: len(set(pairs[one]) & set(pairs[other])) > 0)

"""Ways from place to place by ties: counted in a web, and told by a table alone."""

from evenwebs.errors import NoPlaces
from evenwebs.tables import require_table
from evenwebs.webs import is_place


def counts_after_step(web, counts):
    return [sum([counts[near] for near in row]) for row in web]


def ways_between(web, one, other, many):
    if not is_place(one, len(web)) or not is_place(other, len(web)):
        raise NoPlaces("ways lead from a place of the web to a place of it")
    counts = [1 if place == one else 0 for place in range(len(web))]
    for step in range(many):
        counts = counts_after_step(web, counts)
    return counts[other]


def step_rows(table):
    k = table[1]
    a = table[2]
    b = table[3]
    return [(0, k, 0), (1, a, k - 1 - a), (0, b, k - b)]


def met(row, ways):
    return sum([one * other for one, other in zip(row, ways)])


def ways_by(table, many):
    require_table(table)
    rows = step_rows(table)
    ways = (1, 0, 0)
    for step in range(many):
        ways = tuple([met(row, ways) for row in rows])
    return ways


def left_of_each(ways, rows, divisor):
    return tuple([met(row, ways) % divisor for row in rows])


def doubled(rows, divisor):
    columns = list(zip(rows[0], rows[1], rows[2]))
    return [left_of_each(row, columns, divisor) for row in rows]


def ways_left(table, many, divisor):
    require_table(table)
    # The steps are too many to be gone one by one: rows stand for 1, 2, 4, 8 .. steps at once.
    # The table may be barred, so that only the rule of one step can be relied on, not the worths.
    rows = step_rows(table)
    ways = (1 % divisor, 0, 0)
    left = many
    while left > 0:
        if left % 2 == 1:
            ways = left_of_each(ways, rows, divisor)
        rows = doubled(rows, divisor)
        left = left // 2
    return ways

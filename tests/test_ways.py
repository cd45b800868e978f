import itertools
import unittest

from evenwebs.errors import NoPlaces
from evenwebs.tables import barred, is_table, worths
from evenwebs.ways import ways_between, ways_by, ways_left
from refusing import Refusing
from test_tables import RefusingTables, all_tables
from things import anything, bare, copied, deep, even_webs, fifty_web, full, grid, pairs_out_of, ring, small_webs

PATH = ((1,), (0, 2), (1,))
PETERSEN = (10, 3, 0, 1)
BARRED = (
    (3, 1, 0, 0), (3, 1, 0, 1), (5, 3, 0, 0), (10, 3, 1, 2), (10, 3, 2, 3), (7, 3, 0, 2), (5, 1, 0, 0),
    (28, 9, 0, 4), (50, 21, 4, 12), (21, 10, 4, 5), (100, 98, 0, 98), (100, 98, 97, 0),
)


def walked(web, one, other, many):
    """How many ways there are, each of them gone."""
    if many == 0:
        return 1 if one == other else 0
    return sum(walked(web, place, other, many - 1) for place in web[one])


def multiplied(one, other):
    size = range(len(one))
    return [[sum(one[i][t] * other[t][j] for t in size) for j in size] for i in size]


def ways_of_all(web, many):
    """The ways from each place to each, by squaring."""
    size = range(len(web))
    told = [[int(i == j) for j in size] for i in size]
    power = [[int(j in web[i]) for j in size] for i in size]
    while many:
        if many & 1:
            told = multiplied(told, power)
        power = multiplied(power, power)
        many >>= 1
    return told


def step(table, ways):
    n, k, a, b = table
    x, y, z = ways
    return (k * y, x + a * y + (k - 1 - a) * z, b * y + (k - b) * z)


def steps(table, many):
    ways = (1, 0, 0)
    for number in range(many):
        ways = step(table, ways)
    return ways


def left_by_worths(table, many, divisor):
    """What is left of the ways of an unbarred table with whole worths."""
    n, k, a, b = table
    word, r, f, s, g = worths(table)
    apart = n - k - 1
    by = n * k * apart * divisor
    all_of_one = pow(k, many, by)
    # The same, tied and other ones are n, n k and n apart of the ways from all places to all.
    same = (all_of_one + f * pow(r, many, by) + g * pow(s, many, by)) % by
    near = (all_of_one * k + f * pow(r, many + 1, by) + g * pow(s, many + 1, by)) % by
    assert same % n == 0 and near % (n * k) == 0
    far = (n * all_of_one - same - near) % by
    assert far % (n * apart) == 0
    return (same // n % divisor, near // (n * k) % divisor, far // (n * apart) % divisor)


def left_by_round(table, many, divisor):
    """What is left, found by going on until it comes round again."""
    seen = {}
    row = []
    ways = (1 % divisor, 0, 0)
    while ways not in seen:
        seen[ways] = len(row)
        row.append(ways)
        ways = tuple(part % divisor for part in step(table, ways))
    start = seen[ways]
    if many < len(row):
        return row[many]
    return row[start + (many - start) % (len(row) - start)]


class WaysBetween(Refusing):
    def assert_refused(self, web, one, other, many):
        self.assert_refuses(NoPlaces, ways_between, web, one, other, many)

    def test_no_step(self):
        for web in (((),), PATH, ring(5), full(50), bare(50)):
            for one, other in itertools.product(range(len(web)), repeat=2):
                self.assertEqual(ways_between(web, one, other, 0), int(one == other))

    def test_one_step(self):
        for web in (((),), PATH, ring(5), full(6), bare(6), grid(3)):
            for one, other in itertools.product(range(len(web)), repeat=2):
                self.assertEqual(ways_between(web, one, other, 1), int(other in web[one]))

    def test_two_steps_there_and_back(self):
        self.assertEqual(ways_between(PATH, 1, 1, 2), 2)
        self.assertEqual(ways_between(PATH, 0, 0, 2), 1)
        self.assertEqual(ways_between(PATH, 0, 2, 2), 1)
        self.assertEqual(ways_between(PATH, 0, 1, 2), 0)

    def test_each_way_gone(self):
        for web in small_webs(4) + [grid(3), ring(6), pairs_out_of(4)]:
            for many in range(5):
                for one, other in itertools.product(range(min(len(web), 4)), repeat=2):
                    self.assertEqual(ways_between(web, one, other, many), walked(web, one, other, many))

    def test_many_steps(self):
        self.assertEqual(ways_between(PATH, 0, 0, 200), 2 ** 99)
        self.assertEqual(ways_between(PATH, 0, 1, 199), 2 ** 99)
        self.assertEqual(ways_between(PATH, 0, 1, 200), 0)
        self.assertEqual(ways_between(full(2), 0, 0, 200), 1)
        self.assertEqual(ways_between(full(2), 0, 1, 200), 0)
        self.assertEqual(ways_between(full(50), 7, 7, 200), (49 ** 200 + 49) // 50)
        self.assertEqual(ways_between(full(50), 7, 49, 200), (49 ** 200 - 1) // 50)

    def test_by_squaring(self):
        lopsided = ((1, 2), (0, 2), (0, 1, 3), (2, 4), (3,), ())
        for web in (PATH, lopsided, ring(7), grid(3)):
            for many in (17, 64, 199, 200):
                told = ways_of_all(web, many)
                for one, other in itertools.product(range(len(web)), repeat=2):
                    self.assertEqual(ways_between(web, one, other, many), told[one][other])

    def test_no_ways(self):
        for many in (1, 2, 200):
            self.assertEqual(ways_between(((),), 0, 0, many), 0)
            self.assertEqual(ways_between(bare(50), 3, 3, many), 0)
            self.assertEqual(ways_between(bare(50), 0, 49, many), 0)
            self.assertEqual(ways_between(((1,), (0,), ()), 0, 2, many), 0)

    def test_no_places(self):
        for thing in (
            -1, -2, -3, 3, 4, 50, 10 ** 59, -(10 ** 59), True, False, None, "", "0", "1", [], [0], (), (0,), {},
            {0: 0}, deep(list, 60), deep(tuple, 60), deep(dict, 60),
        ):
            for many in (0, 1, 200):
                self.assert_refused(PATH, thing, 0, many)
                self.assert_refused(PATH, 0, thing, many)
                self.assert_refused(PATH, thing, thing, many)

    def test_anything(self):
        for thing in anything():
            if thing.__class__ is int and 0 <= thing < 3:
                continue
            before = copied(thing)
            self.assert_refused(PATH, thing, 1, 2)
            self.assert_refused(PATH, 1, thing, 2)
            self.assertEqual(thing, before)

    def test_one_place_has_no_other(self):
        self.assert_refused(((),), 0, 1, 0)
        self.assert_refused(((),), 1, 0, 0)
        self.assert_refused(((),), -1, 0, 0)

    def test_somewhat_beyond_200_steps_is_not_refused(self):
        self.assertEqual(ways_between(PATH, 0, 0, 202), 2 ** 100)

    def test_the_same_again(self):
        self.assertEqual(ways_between(grid(3), 0, 1, 9), ways_between(grid(3), 0, 1, 9))
        self.assertIs(type(ways_between(grid(3), 0, 1, 9)), int)


class WaysBy(RefusingTables):
    def test_none_one_and_two_steps(self):
        for table in (PETERSEN, (5, 2, 0, 1), (100, 98, 97, 98)) + BARRED:
            n, k, a, b = table
            self.assertEqual(ways_by(table, 0), (1, 0, 0))
            self.assertEqual(ways_by(table, 1), (0, 1, 0))
            self.assertEqual(ways_by(table, 2), (k, a, b))

    def test_small_ones(self):
        self.assertEqual(ways_by(PETERSEN, 3), (0, 5, 2))
        self.assertEqual(ways_by(PETERSEN, 4), (15, 4, 9))
        self.assertEqual(ways_by((5, 2, 0, 1), 5), (2, 10, 5))

    def test_every_table_of_few_places_by_the_rule(self):
        for n in (3, 4, 5, 8):
            for table in all_tables(n):
                for many in (3, 4, 5, 11):
                    self.assertEqual(ways_by(table, many), steps(table, many))

    def test_a_thousand_steps(self):
        for table in (PETERSEN, (100, 98, 96, 98), (100, 22, 0, 6)) + BARRED:
            self.assertEqual(ways_by(table, 1000), steps(table, 1000))
        x, y, z = ways_by(PETERSEN, 1000)
        self.assertEqual(x, (3 ** 1000 + 5 + 4 * 2 ** 1000) // 10)
        self.assertEqual(x + 3 * y + 6 * z, 3 ** 1000)

    def test_they_are_the_ways_that_the_web_has(self):
        for web, numbers in even_webs():
            if not is_table(numbers) or len(web) > 30:
                continue
            near = web[0][0]
            far = min(set(range(1, len(web))) - set(web[0]))
            for many in (0, 1, 2, 3, 7, 40):
                expected = tuple(ways_between(web, 0, other, many) for other in (0, near, far))
                self.assertEqual(ways_by(numbers, many), expected, (numbers, many))

    def test_they_hang_only_on_whether_two_are_the_same_tied_or_other_ones(self):
        for web, table in ((ring(5), (5, 2, 0, 1)), (grid(3), (9, 4, 1, 2)), (pairs_out_of(5), (10, 6, 3, 4))):
            for one, other in itertools.product(range(len(web)), repeat=2):
                which = 0 if one == other else 1 if other in web[one] else 2
                self.assertEqual(ways_between(web, one, other, 12), ways_by(table, 12)[which])

    def test_200_steps_in_fifty_places(self):
        web = fifty_web()
        told = ways_by((50, 7, 0, 1), 200)
        far = min(set(range(1, 50)) - set(web[0]))
        self.assertEqual(tuple(ways_between(web, 0, other, 200) for other in (0, web[0][0], far)), told)

    def test_barred_tables_too(self):
        for table in BARRED:
            self.assertIsNotNone(barred(table))
            self.assertEqual(ways_by(table, 6), steps(table, 6))

    def test_kinds(self):
        for many in (0, 1, 5):
            told = ways_by(PETERSEN, many)
            self.assertIs(type(told), tuple)
            self.assertEqual([type(part) for part in told], [int] * 3)

    def test_no_tables(self):
        self.assert_refuses_no_tables(lambda thing: ways_by(thing, 0))
        self.assert_refuses_no_tables(lambda thing: ways_by(thing, 3))


class WaysLeft(RefusingTables):
    def test_of_few_steps_what_is_left_of_the_ways(self):
        for table in (PETERSEN, (5, 2, 0, 1), (100, 22, 0, 6), (100, 98, 97, 98)) + BARRED:
            for many in list(range(20)) + [63, 64, 65, 1000]:
                ways = steps(table, many)
                for divisor in (1, 2, 3, 7, 10, 97, 10 ** 9 - 1, 10 ** 9):
                    expected = tuple(part % divisor for part in ways)
                    self.assertEqual(ways_left(table, many, divisor), expected, (table, many, divisor))

    def test_every_table_of_few_places(self):
        for n in (3, 4, 5, 7):
            for table in all_tables(n):
                for many in (0, 1, 2, 5, 12):
                    expected = tuple(part % 11 for part in steps(table, many))
                    self.assertEqual(ways_left(table, many, 11), expected)

    def test_by_1(self):
        for many in (0, 1, 2, 1000, 10 ** 18):
            self.assertEqual(ways_left(PETERSEN, many, 1), (0, 0, 0))

    def test_of_no_step(self):
        self.assertEqual(ways_left(PETERSEN, 0, 2), (1, 0, 0))
        self.assertEqual(ways_left(PETERSEN, 0, 10 ** 9), (1, 0, 0))
        self.assertEqual(ways_left(PETERSEN, 1, 10 ** 9), (0, 1, 0))

    def test_very_many_steps_by_the_worths(self):
        for table in (PETERSEN, (10, 6, 3, 4), (9, 4, 1, 2), (50, 7, 0, 1), (100, 22, 0, 6), (4, 2, 0, 2)):
            for many in (10 ** 18, 10 ** 18 - 1, 2 ** 59, 2 ** 59 - 1, 10 ** 9 + 7):
                for divisor in (1, 2, 3, 10 ** 9, 10 ** 9 - 1):
                    expected = left_by_worths(table, many, divisor)
                    self.assertEqual(ways_left(table, many, divisor), expected, (table, many, divisor))

    def test_very_many_steps_by_going_round(self):
        for table in (PETERSEN, (5, 2, 0, 1), (13, 6, 2, 3)) + BARRED:
            for many in (10 ** 18, 10 ** 18 - 1, 10 ** 17 + 3):
                for divisor in (1, 2, 3, 10, 12):
                    expected = left_by_round(table, many, divisor)
                    self.assertEqual(ways_left(table, many, divisor), expected, (table, many, divisor))

    def test_kinds(self):
        for many in (0, 1, 10 ** 18):
            told = ways_left(PETERSEN, many, 10 ** 9)
            self.assertIs(type(told), tuple)
            self.assertEqual([type(part) for part in told], [int] * 3)

    def test_no_tables(self):
        self.assert_refuses_no_tables(lambda thing: ways_left(thing, 0, 10 ** 9))
        self.assert_refuses_no_tables(lambda thing: ways_left(thing, 10 ** 18, 1))

    def test_the_same_again(self):
        self.assertEqual(ways_left(PETERSEN, 10 ** 18, 10 ** 9), ways_left(PETERSEN, 10 ** 18, 10 ** 9))

import itertools
import math
import unittest
from fractions import Fraction

from evenwebs.errors import NoNumbers
from evenwebs.numbers import evenness
from evenwebs.tables import barred, is_table, tables_of, turned_table, worths
from refusing import Refusing
from things import anything, copied, deep, even_webs, small_webs

# Each is outside by one part alone.
NO_TABLES = (
    (2, 1, 0, 0), (101, 1, 0, 0), (101, 50, 24, 25), (-10, 3, 0, 1), (0, 0, 0, 0), (1, 0, 0, 0), (2, 0, 0, 0),
    (10, 0, 0, 0), (10, -1, 0, 0), (10, 9, 0, 0), (10, 9, 8, 9), (10, 10, 0, 0), (3, 2, 0, 0), (3, 2, 1, 2),
    (10, 3, -1, 1), (10, 3, 3, 1), (10, 3, 0, -1), (10, 3, 0, 4), (10 ** 59, 3, 0, 1), (10, 10 ** 59, 0, 1),
    (10, 3, 10 ** 59, 1), (10, 3, 0, 10 ** 59), (10, 3, -(10 ** 59), 1),
    (True, 3, 0, 1), (10, True, 0, 1), (10, 3, False, 1), (10, 3, True, 1), (10, 3, 0, True), (10, 3, 0, False),
    (10, 3, None, 1), (10, 3, 0, None), (1, 0, None, None), (10, 0, None, 0), (10, 9, 8, None),
    ("10", 3, 0, 1), (10, "3", 0, 1), (10, 3, "0", 1), (10, 3, 0, "1"), ((10,), 3, 0, 1), (10, [3], 0, 1),
    (10, 3, {}, 1), (10, 3, 0, ()), (10, 3, 0), (10, 3), (10,), (), (10, 3, 0, 1, 0), (10, 3, 0, 1, None),
    [10, 3, 0, 1], {10: 3, 0: 1}, {0: 10, 1: 3, 2: 0, 3: 1}, "10 3 0 1", "1301", ((10, 3, 0, 1),),
    ("even", (10, 3, 0, 1)), (10, 3, 0, deep(tuple, 50)),
)


def all_tables(n):
    return [(n, k, a, b) for k in range(1, n - 1) for a in range(k) for b in range(k + 1)]


def tables_that_count(n):
    return [(n, k, a, b) for n, k, a, b in all_tables(n) if k * (k - a - 1) == (n - k - 1) * b]


def times_by_the_words(n, e, w):
    return (n - 1 - Fraction(e, w)) / 2, (n - 1 + Fraction(e, w)) / 2


def is_no_times(number):
    return number.denominator != 1 or number < 0


def is_sum_of_squares(n):
    return any(x * x + y * y == n for x in range(n + 1) for y in range(n + 1))


def bars_by_the_words(table):
    """All that bars a table, in the document's order, as far as it can be reckoned."""
    n, k, a, b = table
    told = [("room", left) for left in (n - 2 * k + a, n - 2 - 2 * k + b) if left < 0][:1]
    if k * (k - a - 1) != (n - k - 1) * b:
        told.append(("counting", k * (k - a - 1), (n - k - 1) * b))
    d = (a - b) ** 2 + 4 * (k - b)
    e = 2 * k + (n - 1) * (a - b)
    w = math.isqrt(d)
    whole = w * w == d
    f, g = times_by_the_words(n, e, w) if whole else (Fraction(n - 1, 2),) * 2
    if (not whole and e != 0) or is_no_times(f) or is_no_times(g):
        told.append(("sums", d, e))
    if whole:
        r, s = Fraction(a - b + w, 2), Fraction(a - b - w, 2)
        if (r + 1) * (k + r + 2 * r * s) > (k + r) * (s + 1) ** 2:
            told.append(("products", 1))
        if (s + 1) * (k + s + 2 * r * s) > (k + s) * (r + 1) ** 2:
            told.append(("products", 2))
    if 0 < b < k:
        told.extend(("threes", often) for often in (f, g) if n > often * (often + 3) / 2)
    if e == 0 and not is_sum_of_squares(n):
        told.append(("squares", n))
    return told


class RefusingTables(Refusing):
    def assert_refused(self, asked, thing):
        self.assert_refuses(NoNumbers, asked, thing)

    def assert_refuses_no_tables(self, asked):
        for thing in list(NO_TABLES) + anything():
            before = copied(thing)
            self.assert_refused(asked, thing)
            self.assertEqual(thing, before)


class IsTable(unittest.TestCase):
    def test_at_each_bound(self):
        for thing in (
            (3, 1, 0, 0), (3, 1, 0, 1), (100, 1, 0, 0), (100, 1, 0, 1), (100, 98, 0, 0), (100, 98, 97, 98),
            (100, 98, 97, 0), (10, 3, 0, 0), (10, 3, 2, 3), (10, 3, 0, 1), (10, 8, 7, 8), (4, 2, 0, 2),
        ):
            with self.subTest(thing):
                self.assertIs(is_table(thing), True)

    def test_no_tables(self):
        for thing in NO_TABLES:
            with self.subTest(repr(thing)[:80]):
                self.assertIs(is_table(thing), False)

    def test_just_the_tables_among_like_things(self):
        numbers = [None, True, False, -1, 0, 1, 2, 3, 4, 5]
        found = {thing for thing in itertools.product(numbers, repeat=4) if is_table(thing)}
        self.assertEqual(found, set(all_tables(3) + all_tables(4) + all_tables(5)))
        for table in found:
            self.assertEqual([type(number) for number in table], [int] * 4)

    def test_truths_are_no_numbers(self):
        # A set would hold a truth and its number for the same.
        for thing in itertools.product([True, False, 0, 1, 4, 5], repeat=4):
            if any(isinstance(part, bool) for part in thing):
                self.assertIs(is_table(thing), False, thing)

    def test_anything(self):
        for thing in anything():
            before = copied(thing)
            self.assertIs(is_table(thing), False)
            self.assertEqual(thing, before)


class TurnedTable(RefusingTables):
    def test_small_ones(self):
        for table, turned in (
            ((5, 2, 0, 1), (5, 2, 0, 1)),
            ((10, 3, 0, 1), (10, 6, 3, 4)),
            ((4, 1, 0, 0), (4, 2, 0, 2)),
            ((50, 7, 0, 1), (50, 42, 35, 36)),
            ((28, 9, 0, 4), (28, 18, 12, 10)),
            ((100, 98, 96, 98), (100, 1, 0, 0)),
        ):
            self.assertEqual(turned_table(table), turned)
            self.assertEqual(turned_table(turned), table)

    def test_turned_twice_it_is_the_first(self):
        for n in range(3, 16):
            for n, k, a, b in all_tables(n):
                expected = (n, n - k - 1, n - 2 - 2 * k + b, n - 2 * k + a)
                if min(expected) < 0:
                    self.assert_refused(turned_table, (n, k, a, b))
                else:
                    turned = turned_table((n, k, a, b))
                    self.assertEqual(turned, expected)
                    self.assertIs(is_table(turned), True)
                    self.assertEqual(turned_table(turned), (n, k, a, b))

    def test_a_number_below_0(self):
        # The third alone, the fourth alone, both.
        for table in ((3, 1, 0, 0), (5, 3, 0, 3), (5, 3, 0, 0), (100, 98, 0, 0), (10, 5, 0, 1), (10, 6, 1, 5)):
            self.assert_refused(turned_table, table)

    def test_no_tables(self):
        self.assert_refuses_no_tables(turned_table)

    def test_kinds(self):
        self.assertIs(type(turned_table((10, 3, 0, 1))), tuple)


class Barred(RefusingTables):
    def test_room(self):
        self.assertEqual(barred((3, 1, 0, 0)), ("room", -1))
        self.assertEqual(barred((5, 3, 0, 3)), ("room", -1))
        self.assertEqual(barred((100, 98, 0, 98)), ("room", -96))
        self.assertEqual(barred((100, 98, 96, 0)), ("room", -98))

    def test_room_tells_the_first_number_that_is_below_0(self):
        self.assertEqual(barred((5, 3, 0, 0)), ("room", -1))
        self.assertEqual(barred((6, 4, 0, 1)), ("room", -2))
        self.assertEqual(barred((100, 98, 0, 0)), ("room", -96))

    def test_counting(self):
        self.assertEqual(barred((3, 1, 0, 1)), ("counting", 0, 1))
        self.assertEqual(barred((10, 3, 0, 2)), ("counting", 6, 12))
        self.assertEqual(barred((10, 3, 1, 1)), ("counting", 3, 6))
        self.assertEqual(barred((5, 2, 0, 2)), ("counting", 2, 4))

    def test_sums_where_d_is_no_square(self):
        self.assertEqual(barred((7, 3, 0, 2)), ("sums", 8, -6))
        self.assertEqual(barred((11, 5, 2, 2)), ("sums", 12, 10))

    def test_sums_where_a_worth_stands_no_whole_number_of_times(self):
        # Of the first e / w is whole, but not as odd as n - 1; of the others it is not whole.
        self.assertEqual(barred((5, 1, 0, 0)), ("sums", 4, 2))
        self.assertEqual(barred((7, 2, 1, 0)), ("sums", 9, 10))
        self.assertEqual(barred((8, 5, 2, 5)), ("sums", 9, -11))

    def test_products(self):
        for table in ((28, 18, 12, 10), (56, 33, 22, 15), (63, 40, 28, 20), (64, 42, 30, 22)):
            self.assertEqual(barred(table), ("products", 1))
            self.assertEqual(barred(turned_table(table)), ("products", 2))

    def test_threes(self):
        self.assertEqual(barred((50, 28, 18, 12)), ("threes", 7))
        self.assertEqual(barred((64, 30, 18, 10)), ("threes", 8))
        self.assertEqual(barred((81, 40, 25, 14)), ("threes", 8))
        self.assertEqual(barred((100, 33, 18, 7)), ("threes", 11))
        self.assertEqual(barred((50, 21, 4, 12)), ("threes", 7))
        self.assertEqual(barred((64, 33, 12, 22)), ("threes", 8))
        self.assertEqual(barred((81, 40, 13, 26)), ("threes", 8))
        self.assertEqual(barred((100, 66, 39, 52)), ("threes", 11))

    def test_threes_of_f_and_of_g(self):
        self.assertEqual(times_by_the_words(50, 2 * 28 + 49 * 6, 10), (7, 42))
        self.assertEqual(times_by_the_words(50, 2 * 21 - 49 * 8, 10), (42, 7))

    def test_threes_bar_nothing_where_b_is_0_or_k(self):
        # One worth stands but few times in each of these.
        for table in ((50, 24, 23, 0), (50, 25, 0, 25), (100, 49, 48, 0), (100, 50, 0, 50), (60, 29, 28, 0)):
            self.assertIn("threes", [bar[0] for bar in self.without_the_bound_of_b(table)])
            self.assertIsNone(barred(table))

    def without_the_bound_of_b(self, table):
        n, k, a, b = table
        w = math.isqrt((a - b) ** 2 + 4 * (k - b))
        times = times_by_the_words(n, 2 * k + (n - 1) * (a - b), w)
        return [("threes", often) for often in times if n > often * (often + 3) / 2]

    def test_squares(self):
        for n in (21, 33, 57, 69, 77, 93):
            self.assertEqual(barred((n, (n - 1) // 2, (n - 5) // 4, (n - 1) // 4)), ("squares", n))

    def test_sums_of_two_squares_are_not_barred(self):
        # 9, 25, 49 and 81 are sums with the square of 0.
        for n in (5, 9, 13, 17, 25, 29, 37, 41, 45, 49, 53, 61, 65, 73, 81, 85, 89, 97):
            self.assertIsNone(barred((n, (n - 1) // 2, (n - 5) // 4, (n - 1) // 4)))

    def test_nothing_bars(self):
        for table in (
            (4, 1, 0, 0), (4, 2, 0, 2), (10, 3, 0, 1), (10, 6, 3, 4), (9, 4, 1, 2), (16, 5, 0, 2), (16, 6, 2, 2),
            (27, 10, 1, 5), (50, 7, 0, 1), (56, 10, 0, 2), (77, 16, 0, 4), (100, 22, 0, 6), (99, 14, 1, 2),
        ):
            with self.subTest(table):
                self.assertIsNone(barred(table))

    def test_the_first_goes_first(self):
        for table, words in (
            ((5, 3, 0, 0), ["room", "counting", "sums"]),
            ((10, 3, 1, 1), ["counting", "sums"]),
            ((28, 9, 0, 4), ["products", "threes"]),
            ((28, 18, 12, 10), ["products", "threes"]),
        ):
            with self.subTest(table):
                bars = bars_by_the_words(table)
                self.assertEqual([bar[0] for bar in bars], words)
                self.assertEqual(barred(table), bars[0])

    def test_every_table_of_few_places_by_the_words(self):
        for n in list(range(3, 15)) + [21, 28]:
            for table in all_tables(n):
                bars = bars_by_the_words(table)
                self.assertEqual(barred(table), bars[0] if bars else None, table)

    def test_every_table_that_counts_by_the_words(self):
        found = {}
        for n in (36, 50, 57, 63, 64, 81, 96, 100):
            for table in tables_that_count(n):
                bars = bars_by_the_words(table)
                self.assertEqual(barred(table), bars[0] if bars else None, table)
                found.setdefault(bars[0][0] if bars else None, table)
        self.assertEqual(len(found), 6)

    def test_no_even_web_has_a_barred_table(self):
        tables = [numbers for web, numbers in even_webs() if is_table(numbers)]
        for web in small_webs(5):
            told = evenness(web)
            if told[0] == "even" and is_table(told[1]):
                tables.append(told[1])
        self.assertGreater(len(tables), 30)
        for table in tables:
            self.assertIsNone(barred(table), table)
            self.assertIsNone(barred(turned_table(table)), table)

    def test_kinds(self):
        for table in ((3, 1, 0, 0), (3, 1, 0, 1), (5, 1, 0, 0), (28, 9, 0, 4), (50, 21, 4, 12), (21, 10, 4, 5)):
            told = barred(table)
            self.assertIs(type(told), tuple)
            self.assertEqual([type(part) for part in told], [str] + [int] * (len(told) - 1))

    def test_no_tables(self):
        self.assert_refuses_no_tables(barred)

    def test_the_same_again(self):
        self.assertEqual(barred((28, 9, 0, 4)), barred((28, 9, 0, 4)))


class Worths(RefusingTables):
    def test_whole_ones(self):
        for table, told in (
            ((10, 3, 0, 1), ("whole", 1, 5, -2, 4)),
            ((10, 6, 3, 4), ("whole", 1, 4, -2, 5)),
            ((9, 4, 1, 2), ("whole", 1, 4, -2, 4)),
            ((4, 1, 0, 0), ("whole", 1, 1, -1, 2)),
            ((4, 2, 0, 2), ("whole", 0, 2, -2, 1)),
            ((16, 5, 0, 2), ("whole", 1, 10, -3, 5)),
            ((50, 7, 0, 1), ("whole", 2, 28, -3, 21)),
            ((100, 22, 0, 6), ("whole", 2, 77, -8, 22)),
            ((49, 24, 11, 12), ("whole", 3, 24, -4, 24)),
        ):
            self.assertEqual(worths(table), told)

    def test_roots(self):
        self.assertEqual(worths((5, 2, 0, 1)), ("root", 5, 2))
        self.assertEqual(worths((13, 6, 2, 3)), ("root", 13, 6))
        self.assertEqual(worths((97, 48, 23, 24)), ("root", 97, 48))

    def test_all_by_the_words(self):
        for n in list(range(3, 61)) + [100]:
            for n, k, a, b in tables_that_count(n) if n > 60 else tables_of(n):
                if barred((n, k, a, b)) is not None:
                    self.assert_refused(worths, (n, k, a, b))
                    continue
                told = worths((n, k, a, b))
                self.assertIs(type(told), tuple)
                self.assertEqual([type(part) for part in told], [str] + [int] * (len(told) - 1))
                if told[0] == "root":
                    self.assertEqual(told, ("root", (a - b) ** 2 + 4 * (k - b), (n - 1) // 2))
                    self.assertNotEqual(math.isqrt(told[1]) ** 2, told[1])
                    continue
                word, r, f, s, g = told
                self.assertEqual(word, "whole")
                self.assertEqual((r + s, r * s), (a - b, b - k))
                self.assertGreater(r, s)
                self.assertEqual((f + g, k + f * r + g * s), (n - 1, 0))
                self.assertEqual(k * k + f * r * r + g * s * s, n * k)

    def test_barred_ones(self):
        for table in (
            (3, 1, 0, 0), (5, 3, 0, 0), (10, 3, 0, 2), (7, 3, 0, 2), (5, 1, 0, 0), (28, 9, 0, 4), (28, 18, 12, 10),
            (50, 21, 4, 12), (50, 28, 18, 12), (21, 10, 4, 5), (57, 28, 13, 14),
        ):
            self.assert_refused(worths, table)

    def test_no_tables(self):
        self.assert_refuses_no_tables(worths)


class TablesOf(RefusingTables):
    def test_few_places(self):
        self.assertEqual(tables_of(3), [])
        self.assertEqual(tables_of(4), [(4, 1, 0, 0), (4, 2, 0, 2)])
        self.assertEqual(tables_of(5), [(5, 2, 0, 1)])
        self.assertEqual(tables_of(6), [(6, 1, 0, 0), (6, 2, 1, 0), (6, 3, 0, 3), (6, 4, 2, 4)])
        self.assertEqual(tables_of(7), [])
        self.assertEqual(tables_of(9), [(9, 2, 1, 0), (9, 4, 1, 2), (9, 6, 3, 6)])
        self.assertEqual(tables_of(10), [
            (10, 1, 0, 0), (10, 3, 0, 1), (10, 4, 3, 0), (10, 5, 0, 5), (10, 6, 3, 4), (10, 8, 6, 8)])

    def test_barred_ones_are_not_among_them(self):
        self.assertNotIn((21, 10, 4, 5), tables_of(21))
        self.assertNotIn((28, 9, 0, 4), tables_of(28))
        self.assertNotIn((50, 21, 4, 12), tables_of(50))
        self.assertIn((28, 12, 6, 4), tables_of(28))
        self.assertIn((50, 7, 0, 1), tables_of(50))

    def test_all_by_the_words(self):
        for n in list(range(3, 30)) + [33, 36, 40, 45, 50, 57, 59, 60]:
            expected = [table for table in tables_that_count(n) if not bars_by_the_words(table)]
            self.assertEqual(tables_of(n), expected, n)

    def test_rising_and_each_once(self):
        for n in range(3, 61):
            told = tables_of(n)
            self.assertIs(type(told), list)
            self.assertEqual(told, sorted(set(told)))
            for table in told:
                self.assertIs(type(table), tuple)
                self.assertEqual(table[0], n)
                self.assertIsNone(barred(table))
                self.assertIn(turned_table(table), told)

    def test_a_new_list_each_time(self):
        first = tables_of(10)
        first.clear()
        second = tables_of(10)
        self.assertEqual(len(second), 6)
        second[0] = None
        self.assertEqual(tables_of(10)[0], (10, 1, 0, 0))
        self.assertIsNot(tables_of(3), tables_of(3))

    def test_beyond(self):
        for thing in (2, 1, 0, -1, -10, 61, 62, 100, 10 ** 59, -(10 ** 59)):
            self.assert_refused(tables_of, thing)

    def test_no_whole_numbers(self):
        for thing in (True, False, None, "", "3", "60", "ten", [], [10], (10,), (), {}, {10: 10}, (10, 3, 0, 1)):
            self.assert_refused(tables_of, thing)

    def test_anything(self):
        for thing in anything():
            if thing != 50:
                before = copied(thing)
                self.assert_refused(tables_of, thing)
                self.assertEqual(thing, before)

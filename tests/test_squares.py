import itertools
import unittest

from evenwebs.errors import NoField, NoSquare, TooMany
from evenwebs.fields import added, multiplied
from evenwebs.numbers import evenness
from evenwebs.squares import across, cuts, field_squares, is_square, net_numbers, net_web, pairs_web, some_across
from evenwebs.webs import is_web
from refusing import Refusing
from things import anything, copied, deep, full, grid, pairs_out_of, web_where

ONE = ((0,),)
TWO = ((0, 1), (1, 0))
# Squares lie across this one; the other kind of four signs, the round one, has not even a cut.
FOUR = ((0, 1, 2, 3), (1, 0, 3, 2), (2, 3, 0, 1), (3, 2, 1, 0))
# It has cuts, but no five that fill it.
FIVE_WITH_FEW_CUTS = ((0, 1, 2, 3, 4), (1, 0, 3, 4, 2), (2, 3, 4, 0, 1), (3, 4, 1, 2, 0), (4, 2, 0, 1, 3))


def round_square(n, leap=1):
    """In row x at column y stands leap x + y, by rests of n."""
    return tuple(tuple((leap * x + y) % n for y in range(n)) for x in range(n))


def all_squares(n, begun=()):
    """Every square of so many signs, or every one that goes on from these first rows."""
    told = [begun]
    for step in range(n - len(begun)):
        told = [
            rows + (row,) for rows in told for row in itertools.permutations(range(n))
            if all(sign != above[y] for above in rows for y, sign in enumerate(row))
        ]
    return told


def renamed(square, names):
    return tuple(tuple(names[sign] for sign in row) for row in square)


def turned_over(square):
    return tuple(zip(*square))


def lie_across(one, other):
    """By the document's words: each two signs stand together in just one place."""
    n = len(one)
    cells = [(one[x][y], other[x][y]) for x in range(n) for y in range(n)]
    return all(cells.count(pair) == 1 for pair in itertools.product(range(n), repeat=2))


def plain_cuts(square):
    """Of all orders of the columns, rising, those with no sign twice."""
    n = len(square)
    return [
        columns for columns in itertools.permutations(range(n))
        if len({square[x][y] for x, y in enumerate(columns)}) == n
    ]


def is_filled(square):
    """Where a sign of a square across stands is a cut, so that as many cuts must fill the square."""
    n = len(square)
    return any(
        all(len({cut[x] for cut in chosen}) == n for x in range(n))
        for chosen in itertools.combinations(plain_cuts(square), n))


def with_sign(square, x, y, sign):
    rows = [list(row) for row in square]
    rows[x][y] = sign
    return tuple(tuple(row) for row in rows)


SAMPLES = (
    [ONE, TWO, FOUR, FIVE_WITH_FEW_CUTS] + [round_square(n) for n in range(3, 8)] + [round_square(7, 3)]
    + [turned_over(FIVE_WITH_FEW_CUTS), renamed(round_square(6), (3, 5, 1, 0, 2, 4))]
)
NO_SQUARES = [
    (), ((),), ((1,),), ((-1,),), ((0, 0),), ((0,), (0,)), ((0, 1),), ((0,), (1,)),
    ((0, 1), (0, 1)), ((0, 0), (1, 1)), ((0, 0), (0, 0)), ((0, 1), (1, 1)), ((1, 2), (2, 1)), ((0, -1), (-1, 0)),
    ((0, 1), (1, 0), (0, 1)), ((0, 1, 2), (1, 2, 0)), ((0, 1), (1,)), ((0, 1), ()), ((0, 1), (1, 0), ()),
    ((0, 1), (1, 0, 0)), ((0, 1, 0), (1, 0)), ((0, 1, 2), (1, 2, 0), (2, 0)), ((0, 1, 2), (1, 2, 0), (2, 0, 1, 0)),
    ((0, 1, 2), (1, 2, 0), (0, 1, 2)), ((0, 1, 2), (1, 2, 0), (2, 1, 0)), ((0, 1, 2), (1, 0, 1), (2, 2, 0)),
    ((0, 2, 1), (1, 0, 3), (2, 1, 0)), ((0, 3, 1), (1, 0, 3), (3, 1, 0)),
    [[0, 1], [1, 0]], ([0, 1], [1, 0]), [(0, 1), (1, 0)], ((0, 1), [1, 0]), ([0],), [(0,)], [[0]],
    ((False,),), ((False, True), (True, False)), ((0, True), (1, 0)), ((0, 1), (1, False)), ((False, 1), (1, 0)),
    (("0",),), (("0", "1"), ("1", "0")), ("01", "10"), ("0",), ((None,),), ((0, None), (None, 0)), (None,), (0,), (0, 1),
    (((0,),),), (([0],),), (({},),), ({0: 0},), {0: (0,)}, {0: (0, 1), 1: (1, 0)}, ({0: 0, 1: 1}, {0: 1, 1: 0}),
    ((0, 1), (1, 10 ** 59)), ((0, 1), (1, -(10 ** 59))), (((0, 1), (1, 0)),), ((0, 1), (1, ())), ((0, 1), (1, [])),
    round_square(8), round_square(9), round_square(50), deep(tuple, 50), (deep(tuple, 50), deep(tuple, 50)),
]


NO_SQUARES.extend(thing for thing in anything() if thing != ONE)


class RefusingSquares(Refusing):
    def assert_refuses_no_squares(self, asked, *behind):
        for thing in NO_SQUARES:
            self.assert_refuses(NoSquare, asked, thing, *behind)


class IsSquare(unittest.TestCase):
    def test_squares(self):
        for square in SAMPLES:
            with self.subTest(square):
                self.assertIs(is_square(square), True)

    def test_no_squares(self):
        for thing in NO_SQUARES:
            before = copied(thing)
            with self.subTest(repr(thing)[:80]):
                self.assertIs(is_square(thing), False)
                self.assertEqual(thing, before)

    def test_just_the_small_ones_among_like_things(self):
        signs = (-1, 0, 1, 2)
        found = [rows for rows in itertools.product(itertools.product(signs, repeat=2), repeat=2) if is_square(rows)]
        self.assertEqual(sorted(found), [((0, 1), (1, 0)), ((1, 0), (0, 1))])
        rows = list(itertools.product(range(3), repeat=3))
        found = [rows for rows in itertools.product(rows, repeat=3) if is_square(rows)]
        self.assertEqual(found, all_squares(3))
        self.assertEqual(len(found), 12)

    def test_every_one_of_four_signs(self):
        squares = all_squares(4)
        self.assertEqual(len(squares), 576)
        for square in squares:
            self.assertIs(is_square(square), True)

    def test_another_sign_anywhere(self):
        for square in SAMPLES:
            n = len(square)
            for x, y in itertools.product(range(n), repeat=2):
                for sign in (-1, n, n + 1, (square[x][y] + 1) % n, None, "0", (), [], {}):
                    if sign != square[x][y]:
                        self.assertIs(is_square(with_sign(square, x, y, sign)), False)

    def test_truths_in_the_place_of_0_and_1(self):
        for square in SAMPLES:
            for x, y in itertools.product(range(len(square)), repeat=2):
                if square[x][y] < 2:
                    self.assertIs(is_square(with_sign(square, x, y, bool(square[x][y]))), False)

    def test_a_sign_twice_in_a_column_alone(self):
        for n in range(2, 8):
            row = tuple(range(n))
            self.assertIs(is_square((row,) * n), False)
            self.assertIs(is_square(round_square(n)[:-1] + (row,)), False)

    def test_a_sign_twice_in_a_row_alone(self):
        for n in range(2, 8):
            self.assertIs(is_square(turned_over((tuple(range(n)),) * n)), False)

    def test_a_row_too_few_or_too_many(self):
        for square in SAMPLES:
            self.assertIs(is_square(square[:-1]), False)
            self.assertIs(is_square(square + square[:1]), False)
            self.assertIs(is_square(square + ((),)), False)

    def test_lists_in_the_place_of_tuples(self):
        for square in SAMPLES:
            self.assertIs(is_square(list(square)), False)
            self.assertIs(is_square(tuple(list(row) for row in square)), False)
            self.assertIs(is_square(square[:-1] + (list(square[-1]),)), False)


class Across(RefusingSquares):
    def test_those_that_do(self):
        self.assertIs(across(ONE, ONE), True)
        self.assertIs(across(round_square(3), round_square(3, 2)), True)
        self.assertIs(across(round_square(5), round_square(5, 3)), True)
        self.assertIs(across(round_square(7, 6), round_square(7, 2)), True)
        self.assertIs(across(FOUR, (FOUR[0], FOUR[2], FOUR[3], FOUR[1])), True)

    def test_those_that_do_not(self):
        self.assertIs(across(TWO, TWO), False)
        self.assertIs(across(TWO, TWO[::-1]), False)
        for square in SAMPLES[1:]:
            self.assertIs(across(square, square), False)
        self.assertIs(across(round_square(4), round_square(4, 3)), False)
        self.assertIs(across(round_square(6), round_square(6, 5)), False)
        self.assertIs(across(FOUR, round_square(4)), False)

    def test_every_two_of_three_signs(self):
        found = 0
        for one, other in itertools.product(all_squares(3), repeat=2):
            self.assertIs(across(one, other), lie_across(one, other))
            found += across(one, other)
        self.assertEqual(found, 72)

    def test_many_of_four_signs(self):
        found = 0
        for one in all_squares(4)[::37]:
            for other in all_squares(4)[::5]:
                self.assertIs(across(one, other), lie_across(one, other))
                found += across(one, other)
        self.assertGreater(found, 0)

    def test_either_way_about_and_by_other_names(self):
        names = (4, 2, 0, 1, 3)
        for u, v in itertools.product(range(1, 5), repeat=2):
            one, other = round_square(5, u), round_square(5, v)
            self.assertIs(across(one, other), u != v)
            self.assertIs(across(other, one), u != v)
            self.assertIs(across(renamed(one, names), other), u != v)

    def test_no_squares(self):
        self.assert_refuses_no_squares(across, TWO)
        self.assert_refuses_no_squares(lambda thing: across(TWO, thing))
        self.assert_refuses_no_squares(lambda thing: across(thing, thing))

    def test_unlike_many_signs(self):
        for one, other in itertools.product(SAMPLES, repeat=2):
            if len(one) != len(other):
                self.assert_refuses(NoSquare, across, one, other)


class Cuts(RefusingSquares):
    def test_small_ones(self):
        self.assertEqual(cuts(ONE), [(0,)])
        self.assertEqual(cuts(TWO), [])
        self.assertEqual(cuts(round_square(3)), [(0, 1, 2), (1, 2, 0), (2, 0, 1)])
        self.assertEqual(cuts(FOUR), [
            (0, 2, 3, 1), (0, 3, 1, 2), (1, 2, 0, 3), (1, 3, 2, 0),
            (2, 0, 1, 3), (2, 1, 3, 0), (3, 0, 2, 1), (3, 1, 0, 2)])

    def test_those_without_a_cut(self):
        for n in (2, 4, 6):
            self.assertEqual(cuts(round_square(n)), [])

    def test_how_many(self):
        for n, many in ((3, 3), (5, 15), (7, 133)):
            self.assertEqual(len(cuts(round_square(n))), many)

    def test_every_one_of_few_signs_by_a_plain_search(self):
        for square in all_squares(1) + all_squares(2) + all_squares(3) + all_squares(4)[::7]:
            self.assertEqual(cuts(square), plain_cuts(square), square)

    def test_some_of_more_signs_by_a_plain_search(self):
        for square in all_squares(5, round_square(5)[:2])[::3] + [FIVE_WITH_FEW_CUTS]:
            self.assertEqual(cuts(square), plain_cuts(square), square)
        six = all_squares(6, round_square(6)[:4])
        for square in six + [renamed(square, (5, 3, 4, 0, 2, 1)) for square in six]:
            self.assertEqual(cuts(square), plain_cuts(square), square)

    def test_rising_and_each_once(self):
        for square in SAMPLES:
            told = cuts(square)
            self.assertEqual(told, sorted(set(told)))
            for cut in told:
                self.assertIs(type(cut), tuple)
                self.assertEqual(sorted(cut), list(range(len(square))))
                self.assertEqual(len({square[x][y] for x, y in enumerate(cut)}), len(square))

    def test_a_new_list_each_time(self):
        for square in (ONE, TWO, FOUR):
            first = cuts(square)
            kept = list(first)
            self.assertIs(type(first), list)
            first.append(None)
            self.assertEqual(cuts(square), kept)
            self.assertIsNot(cuts(square), cuts(square))

    def test_no_squares(self):
        self.assert_refuses_no_squares(cuts)


class SomeAcross(RefusingSquares):
    def assert_found(self, square):
        told = some_across(square)
        self.assertIs(is_square(told), True, square)
        self.assertEqual(len(told), len(square))
        self.assertIs(lie_across(square, told), True, square)

    def test_one_sign(self):
        self.assertEqual(some_across(ONE), ONE)

    def test_two_signs(self):
        for square in all_squares(2):
            self.assertIsNone(some_across(square))

    def test_three_signs(self):
        for square in all_squares(3):
            self.assert_found(square)

    def test_four_signs(self):
        found = 0
        for square in all_squares(4):
            if is_filled(square):
                found += 1
                self.assert_found(square)
            else:
                self.assertIsNone(some_across(square), square)
        # A quarter of them is of the kind that has squares across.
        self.assertEqual(found, 144)

    def test_five_signs(self):
        for leap in range(1, 5):
            self.assert_found(round_square(5, leap))
            self.assert_found(renamed(round_square(5, leap), (2, 4, 1, 0, 3)))

    def test_five_signs_with_cuts_but_none_across(self):
        for square in (FIVE_WITH_FEW_CUTS, turned_over(FIVE_WITH_FEW_CUTS)):
            self.assertGreater(len(cuts(square)), 0)
            self.assertIsNone(some_across(square))

    def test_five_signs_by_a_plain_search(self):
        found = {True: 0, False: 0}
        for first in (round_square(5), FIVE_WITH_FEW_CUTS):
            for square in all_squares(5, first[:2])[::2]:
                filled = is_filled(square)
                found[filled] += 1
                if filled:
                    self.assert_found(square)
                else:
                    self.assertIsNone(some_across(square), square)
        self.assertGreater(found[True], 0)
        self.assertGreater(found[False], 0)

    def test_too_many(self):
        for square in (round_square(6), round_square(7), round_square(7, 3)):
            self.assert_refuses(TooMany, some_across, square)

    def test_no_squares(self):
        self.assert_refuses_no_squares(some_across)

    def test_no_square_goes_ahead_of_too_many(self):
        for n in (6, 7):
            self.assert_refuses(NoSquare, some_across, (tuple(range(n)),) * n)
            self.assert_refuses(NoSquare, some_across, list(round_square(n)))
            self.assert_refuses(NoSquare, some_across, round_square(n)[:-1])

    def test_the_same_again(self):
        for square in (FOUR, round_square(5)):
            self.assertEqual(some_across(square), some_across(square))


class FieldSquares(Refusing):
    def test_of_primes(self):
        for q in (2, 3, 5, 7):
            self.assertEqual(field_squares(q), [round_square(q, leap) for leap in range(1, q)])

    def test_of_4(self):
        self.assertEqual(field_squares(4), [
            ((0, 1, 2, 3), (1, 0, 3, 2), (2, 3, 0, 1), (3, 2, 1, 0)),
            ((0, 1, 2, 3), (2, 3, 0, 1), (3, 2, 1, 0), (1, 0, 3, 2)),
            ((0, 1, 2, 3), (3, 2, 1, 0), (1, 0, 3, 2), (2, 3, 0, 1)),
        ])

    def test_by_the_words(self):
        for q in (2, 3, 4, 5, 7):
            told = field_squares(q)
            self.assertEqual(len(told), q - 1)
            for u, x, y in itertools.product(range(q - 1), range(q), range(q)):
                self.assertEqual(told[u][x][y], added(q, multiplied(q, u + 1, x), y))

    def test_each_two_lie_across(self):
        for q in (2, 3, 4, 5, 7):
            told = field_squares(q)
            for square in told:
                self.assertIs(is_square(square), True)
            for one, other in itertools.combinations(told, 2):
                self.assertIs(lie_across(one, other), True)
                self.assertIs(across(one, other), True)

    def test_a_new_list_each_time(self):
        first = field_squares(4)
        self.assertIs(type(first), list)
        first.clear()
        self.assertEqual(len(field_squares(4)), 3)
        self.assertIsNot(field_squares(2), field_squares(2))

    def test_other_fields(self):
        for q in (8, 9, 11, 13, 16, 25, 27, 32, 47, 49):
            self.assert_refuses(NoField, field_squares, q)

    def test_no_fields(self):
        for thing in (-2, -1, 0, 1, 6, 10, 50, True, False, None, "4", "", [4], (4,), [], (), {}, {4: 4}, 10 ** 59):
            self.assert_refuses(NoField, field_squares, thing)
        for thing in anything():
            if thing != 2:
                self.assert_refuses(NoField, field_squares, thing)


def nets():
    """Nets of every many signs, of none to as many squares as there are."""
    told = []
    for n in (2, 3, 4, 5, 7):
        squares = field_squares(n)
        for many in range(n):
            told.append((n, squares[:many]))
            told.append((n, squares[n - 1 - many:][::-1]))
    for square in SAMPLES:
        if len(square) > 1:
            told.append((len(square), [square]))
    told.append((6, []))
    told.append((4, [some_across(FOUR), FOUR]))
    told.append((5, [renamed(round_square(5, 2), (4, 2, 0, 1, 3)), renamed(round_square(5), (1, 0, 2, 4, 3))]))
    return told


def plain_net_web(n, squares):
    def are_tied(one, other):
        x, y = one // n, one % n
        v, w = other // n, other % n
        return x == v or y == w or any(square[x][y] == square[v][w] for square in squares)
    return web_where(n * n, are_tied)


class Nets(Refusing):
    def assert_no_net(self, n, thing):
        self.assert_refuses(NoSquare, net_web, n, thing)
        self.assert_refuses(NoSquare, net_numbers, n, thing)

    def test_without_squares(self):
        for n in range(2, 8):
            self.assertEqual(net_web(n, []), grid(n))
            self.assertEqual(net_numbers(n, []), (n * n, 2 * (n - 1), n - 2, 2))

    def test_with_all_squares(self):
        for n in (2, 3, 4, 5, 7):
            self.assertEqual(net_web(n, field_squares(n)), full(n * n))
            self.assertEqual(net_numbers(n, field_squares(n)), (n * n, n * n - 1, n * n - 2, None))

    def test_known_numbers(self):
        self.assertEqual(net_numbers(2, []), (4, 2, 0, 2))
        self.assertEqual(net_numbers(2, [TWO]), (4, 3, 2, None))
        self.assertEqual(net_numbers(3, [round_square(3)]), (9, 6, 3, 6))
        self.assertEqual(net_numbers(4, [FOUR]), (16, 9, 4, 6))
        self.assertEqual(net_numbers(6, [round_square(6)]), (36, 15, 6, 6))
        self.assertEqual(net_numbers(7, field_squares(7)[:5]), (49, 42, 35, 42))

    def test_the_web_by_the_words(self):
        for n, squares in nets():
            web = net_web(n, squares)
            self.assertIs(is_web(web), True)
            self.assertEqual(web, plain_net_web(n, squares))

    def test_the_numbers_are_what_evenness_tells(self):
        for n, squares in nets():
            numbers = net_numbers(n, squares)
            self.assertEqual(evenness(net_web(n, squares)), ("even", numbers))
            g = len(squares) + 2
            b = None if g == n + 1 else g * (g - 1)
            self.assertEqual(numbers, (n * n, g * (n - 1), n - 2 + (g - 1) * (g - 2), b))
            self.assertIs(type(numbers), tuple)

    def test_what_is_handed_in_is_not_changed_and_nothing_hangs_on_it(self):
        squares = field_squares(5)[:2]
        kept = list(squares)
        web = net_web(5, squares)
        net_numbers(5, squares)
        self.assertEqual(squares, kept)
        again = copied(web)
        squares.clear()
        self.assertEqual(web, again)

    def test_no_n(self):
        for thing in (1, 0, -1, -3, 8, 9, 50, 10 ** 59, True, False, None, "", "3", [3], (3,), [], (), {}, {3: 3}):
            self.assert_no_net(thing, [])
            self.assert_no_net(thing, [round_square(3)])
            self.assert_no_net(thing, None)
        self.assert_no_net(1, [ONE])
        self.assert_no_net(8, [round_square(8)])
        for thing in anything():
            if thing != 2:
                self.assert_no_net(thing, [])

    def test_no_list(self):
        for thing in anything():
            if thing != []:
                self.assert_no_net(3, thing)
        for thing in ((), (round_square(3),), round_square(3), {}, {0: round_square(3)}, None, True, "", 0):
            self.assert_no_net(3, thing)

    def test_what_holds_no_square(self):
        for part in NO_SQUARES:
            self.assert_no_net(2, [part])
            self.assert_no_net(3, [round_square(3), part])
            self.assert_no_net(3, [part, round_square(3)])

    def test_squares_of_other_many_signs(self):
        for n in range(2, 8):
            for square in SAMPLES:
                if len(square) != n:
                    self.assert_no_net(n, [square])
        self.assert_no_net(5, [round_square(5), FOUR])
        self.assert_no_net(5, [FOUR, round_square(5)])
        self.assert_no_net(5, [ONE])

    def test_two_that_do_not_lie_across(self):
        for square in SAMPLES:
            if len(square) > 2:
                self.assert_no_net(len(square), [square, square])
        self.assert_no_net(4, [FOUR, round_square(4)])
        self.assert_no_net(4, [round_square(4), round_square(4, 3)])
        for n in (4, 5, 7):
            squares = field_squares(n)
            for first, last in itertools.combinations(range(3), 2):
                doubled = list(squares[:3])
                doubled[last] = renamed(doubled[first], list(range(n))[::-1])
                self.assert_no_net(n, doubled)

    def test_too_many(self):
        for n in (2, 3, 4, 5, 7):
            squares = field_squares(n)
            self.assert_no_net(n, squares + squares[:1])
            self.assert_no_net(n, squares * 2)
        self.assert_no_net(2, [TWO] * 5000)


class PairsWeb(Refusing):
    def test_by_the_words(self):
        for m in range(3, 11):
            web = pairs_web(m)
            self.assertIs(is_web(web), True)
            self.assertEqual(web, pairs_out_of(m))

    def test_small_ones(self):
        self.assertEqual(pairs_web(3), full(3))
        # 01 02 03 12 13 23
        self.assertEqual(pairs_web(4), (
            (1, 2, 3, 4), (0, 2, 3, 5), (0, 1, 4, 5), (0, 1, 4, 5), (0, 2, 3, 5), (1, 2, 3, 4)))

    def test_even(self):
        self.assertEqual(evenness(pairs_web(3)), ("even", (3, 2, 1, None)))
        for m in range(4, 11):
            numbers = (m * (m - 1) // 2, 2 * (m - 2), m - 2, 4)
            self.assertEqual(evenness(pairs_web(m)), ("even", numbers))

    def test_beyond(self):
        for m in (2, 1, 0, -1, -3, -10, 11, 12, 50, 10 ** 59, -(10 ** 59)):
            self.assert_refuses(NoSquare, pairs_web, m)

    def test_no_whole_numbers(self):
        for thing in (True, False, None, "", "3", "10", [], [5], (5,), (), {}, {5: 5}):
            self.assert_refuses(NoSquare, pairs_web, thing)
        for thing in anything():
            self.assert_refuses(NoSquare, pairs_web, thing)

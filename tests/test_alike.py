import itertools
import math
import random
import time
import unittest

from evenwebs.alike import alike, leads, many_orders, order_to
from evenwebs.errors import TooMany
from evenwebs.fields import added, field_web, multiplied, raised, squares_in
from evenwebs.squares import field_squares, net_web
from refusing import Refusing
from things import (
    anything, bare, beside, copied, drawn_order, drawn_web, even_webs, fifty_web, four_digit_web, full, grid,
    leaning_grid, led, lots, pairs_out_of, prime_web, ring, small_webs, spokes, tied_anew, turned,
    turned_about,
)


def plainly_leads(one, other, order):
    return len(one) == len(other) and all(
        (q in one[p]) == (order[q] in other[order[p]]) for p, q in itertools.combinations(range(len(one)), 2))


def plain_orders(one, other):
    """All orders that lead the one to the other, rising, by a look at each."""
    if len(one) != len(other):
        return []
    return [order for order in itertools.permutations(range(len(one))) if plainly_leads(one, other, order)]


def plain_order_to(one, other):
    return next((o for o in itertools.permutations(range(len(one))) if plainly_leads(one, other, o)), None)


def with_one_tie_changed(source, web):
    return tied_anew(web, *source.sample(range(len(web)), 2))


def orders_of_grid(m):
    """All orders that lead the grid to itself: rows and columns change places, and rows with columns."""
    told = []
    for rows in itertools.permutations(range(m)):
        for columns in itertools.permutations(range(m)):
            straight = tuple(m * rows[p // m] + columns[p % m] for p in range(m * m))
            told.append(straight)
            told.append(tuple(p % m * m + p // m for p in straight))
    return told


def orders_of_pairs(m):
    """All orders that lead the pairs out of m things, m above 4, to themselves: the things change places."""
    pairs = [(x, y) for x in range(m) for y in range(x + 1, m)]
    places = {pair: place for place, pair in enumerate(pairs)}
    return [
        tuple(places[min(to[x], to[y]), max(to[x], to[y])] for x, y in pairs)
        for to in itertools.permutations(range(m))]


def orders_of_field(p, m):
    """All orders that lead the web of a field to itself: times a square, a power of p, and a thing more."""
    q = p ** m
    told = []
    for square in squares_in(q):
        for power in range(m):
            times = [multiplied(q, square, raised(q, x, p ** power)) for x in range(q)]
            told.extend(tuple(added(q, x, more) for x in times) for more in range(q))
    return told


def chang_webs():
    """The three webs with the numbers of pairs out of eight that are not those, each made by a turn of it."""
    pairs = [(x, y) for x in range(8) for y in range(x + 1, 8)]
    by_fours = [(0, 1), (2, 3), (4, 5), (6, 7)]
    by_round = [(x, x + 1) for x in range(7)] + [(0, 7)]
    by_rounds = [(0, 1), (1, 2), (0, 2), (3, 4), (4, 5), (5, 6), (6, 7), (3, 7)]
    return [turned(pairs_out_of(8), [pairs.index(pair) for pair in some]) for some in (by_fours, by_round, by_rounds)]


def turned_grid():
    """The grid of four by four turned at one place in each row and column."""
    return turned(grid(4), (0, 5, 10, 15))


def cubes():
    """The corners of a cube, tied along its edges."""
    return tuple(tuple(sorted(p ^ bit for bit in (1, 2, 4))) for p in range(8))


class Leads(unittest.TestCase):
    def test_every_order_of_small_webs(self):
        for many in (1, 2, 3):
            webs = [web for web in small_webs(3) if len(web) == many]
            for one, other in itertools.product(webs, webs):
                for order in itertools.permutations(range(many)):
                    self.assertIs(leads(one, other, order), plainly_leads(one, other, order), (one, other, order))

    def test_drawn_orders(self):
        source = random.Random(21)
        for many in (4, 5, 6, 9, 16, 28, 50):
            for share in (20, 50, 80):
                web = drawn_web(source, many, share)
                order = drawn_order(source, many)
                there = led(web, order)
                self.assertIs(leads(web, there, order), True)
                back = tuple(order.index(place) for place in range(many))
                self.assertIs(leads(there, web, back), True)
                self.assertIs(leads(web, with_one_tie_changed(source, there), order), False)
                other = drawn_order(source, many)
                self.assertIs(leads(web, there, other), plainly_leads(web, there, other))

    def test_the_way_there_is_not_the_way_back(self):
        web = ((1,), (0, 2), (1,), ())
        order = (1, 2, 3, 0)
        self.assertEqual(led(web, order), ((), (2,), (1, 3), (2,)))
        self.assertIs(leads(web, led(web, order), order), True)
        self.assertIs(leads(web, led(web, order), (3, 0, 1, 2)), False)
        self.assertIs(leads(led(web, order), web, (3, 0, 1, 2)), True)

    def test_a_tie_too_few_and_one_too_many(self):
        order = (0, 1, 2)
        self.assertIs(leads(((1,), (0,), ()), ((1,), (0,), ()), order), True)
        self.assertIs(leads(((1,), (0,), ()), bare(3), order), False)
        self.assertIs(leads(bare(3), ((1,), (0,), ()), order), False)

    def test_unlike_many_places(self):
        for one, other in ((1, 2), (2, 3), (3, 2), (4, 50)):
            for order in (tuple(range(one)), tuple(range(other))):
                self.assertIs(leads(bare(one), bare(other), order), False)
                self.assertIs(leads(full(one), full(other), order), False)

    def test_what_is_no_order(self):
        wrong = [
            (), (0,), (0, 1), (0, 1, 2, 3), (0, 1, 1), (0, 0, 0), (1, 2, 3), (-1, 0, 1), (0, 1, -1), (-3, -2, -1),
            (0, 1, 3), (0, 1, 10 ** 59), (0, 1, -(10 ** 59)), (False, True, 2), (0, True, 2), (False, 1, 2),
            (0, 1, None), (0, 1, "2"), (0, 1, (2,)), (0, 1, [2]), (0, 1, {}), ([], [], []), ({}, {}, {}),
            [0, 1, 2], "012", None, True, False, 0, 3, {}, {0: 0, 1: 1, 2: 2}, ((0, 1, 2),), [(0, 1, 2)],
            ((0, 1), (1, 2), (2, 0)), (0, 1, 2, 2), (0, 1, 2, None),
        ]
        for web in (bare(3), full(3), ((1,), (0,), ())):
            self.assertIs(leads(web, web, (0, 1, 2)), True)
            for thing in wrong + anything():
                before = copied(thing)
                self.assertIs(leads(web, web, thing), False, repr(thing)[:80])
                self.assertEqual(thing, before)

    def test_anything_with_webs_of_other_sizes(self):
        for many in (1, 2, 50):
            for thing in anything() + [(False,), (True,), (-1,), (1, False), (True, False)]:
                self.assertIs(leads(full(many), full(many), thing), False, repr(thing)[:80])
        self.assertIs(leads(((),), ((),), (0,)), True)
        self.assertIs(leads(full(2), full(2), (1, 0)), True)

    def test_webs_stay_as_they_are(self):
        one, other = ring(5), turned_about(ring(5))
        before = copied((one, other))
        leads(one, other, (0, 2, 4, 1, 3))
        self.assertEqual((one, other), before)


class OrderTo(Refusing):
    def test_every_two_small_webs_by_a_plain_search(self):
        webs = small_webs(4)
        for one, other in itertools.product(webs, webs):
            if len(one) == len(other):
                self.assertEqual(order_to(one, other), plain_order_to(one, other), (one, other))
            else:
                self.assertIsNone(order_to(one, other))

    def test_drawn_webs_by_a_plain_search(self):
        source = random.Random(6)
        for many in (5, 6):
            for turn in range(40):
                web = drawn_web(source, many, source.choice((15, 30, 50, 70, 85)))
                there = led(web, drawn_order(source, many))
                self.assertEqual(order_to(web, there), plain_order_to(web, there))
                self.assertEqual(order_to(web, web), plain_order_to(web, web))
                for other in (with_one_tie_changed(source, there), drawn_web(source, many, 50)):
                    self.assertEqual(order_to(web, other), plain_order_to(web, other))

    def test_webs_in_which_much_looks_alike_by_a_plain_search(self):
        source = random.Random(12)
        webs = [
            ring(6), beside(ring(3), ring(3)), lots(3, 2), lots(2, 3), beside(full(2), ring(4)), grid(2),
            beside(full(3), bare(3)), beside(ring(5), bare(1)), beside(bare(2), ring(4)), beside(full(2), bare(4)),
            bare(6), full(6), beside(full(4), full(2)), spokes(6, {1, 3}), beside(ring(4), full(1)),
            beside(bare(1), full(2), bare(1), full(2)),
        ]
        webs += [turned_about(web) for web in webs]
        for one, other in itertools.product(webs, webs):
            if len(one) == len(other):
                there = led(other, drawn_order(source, len(other)))
                self.assertEqual(order_to(one, there), plain_order_to(one, there), (one, there))

    def first_of(self, orders, order):
        """The first of all orders there, where one order there and all of the web to itself are known."""
        return min(tuple(order[place] for place in each) for each in orders)

    def test_the_first_one_where_all_are_known(self):
        source = random.Random(28)
        for web, orders in (
                (grid(3), orders_of_grid(3)), (grid(4), orders_of_grid(4)),
                (pairs_out_of(5), orders_of_pairs(5)), (pairs_out_of(7), orders_of_pairs(7)),
                (pairs_out_of(8), orders_of_pairs(8)), (field_web(9), orders_of_field(3, 2)),
                (field_web(13), orders_of_field(13, 1)), (field_web(25), orders_of_field(5, 2))):
            self.assertTrue(all(plainly_leads(web, web, order) for order in orders[:20]))
            for turn in range(2):
                order = drawn_order(source, len(web))
                first = self.first_of(orders, order)
                self.assertEqual(order_to(web, led(web, order)), first)
                self.assertEqual(order_to(turned_about(web), turned_about(led(web, order))), first)

    def test_even_webs_in_short_time(self):
        source = random.Random(16)
        started = time.process_time()
        webs = [web for web, numbers in even_webs() if len(web) <= 28]
        webs += [turned_about(web) for web in webs]
        webs += [field_web(q) for q in (5, 9, 13, 17, 25)] + chang_webs() + [net_web(5, field_squares(5)[:1])]
        for web in webs:
            order = drawn_order(source, len(web))
            there = led(web, order)
            first = order_to(web, there)
            self.assertTrue(plainly_leads(web, there, first))
            self.assertLessEqual(first, order)
            self.assertEqual(order_to(web, web), tuple(range(len(web))))
        self.assertLess(time.process_time() - started, 20)

    def test_webs_of_fields_and_their_other_webs(self):
        started = time.process_time()
        for q in (5, 9, 13, 17, 25):
            web = field_web(q)
            order = order_to(web, turned_about(web))
            self.assertTrue(plainly_leads(web, turned_about(web), order))
            self.assertEqual(order[0], 0)
        self.assertEqual(order_to(field_web(5), turned_about(field_web(5))), (0, 2, 4, 1, 3))
        self.assertEqual(order_to(ring(5), turned_about(ring(5))), (0, 2, 4, 1, 3))
        self.assertLess(time.process_time() - started, 20)

    def test_webs_with_the_same_numbers_that_are_not_alike(self):
        started = time.process_time()
        webs = chang_webs() + [pairs_out_of(8)]
        for one, other in itertools.permutations(webs, 2):
            self.assertIsNone(order_to(one, other))
            self.assertIsNone(order_to(turned_about(one), turned_about(other)))
        for one, other in itertools.permutations([grid(4), leaning_grid()], 2):
            self.assertIsNone(order_to(one, other))
        for one, other in itertools.permutations([leaning_grid(), turned_grid()], 2):
            self.assertTrue(plainly_leads(one, other, order_to(one, other)))
        square = ((0, 1, 2, 3, 4), (1, 0, 3, 4, 2), (2, 3, 4, 0, 1), (3, 4, 1, 2, 0), (4, 2, 0, 1, 3))
        for one, other in itertools.permutations([net_web(5, [square]), field_web(25)], 2):
            self.assertIsNone(order_to(one, other))
        self.assertLess(time.process_time() - started, 20)

    def test_twelve_places_that_are_not_even_in_short_time(self):
        source = random.Random(11)
        started = time.process_time()
        halves = [bare(6), full(6), lots(3, 2), lots(2, 3), ring(6), turned_about(lots(3, 2)), beside(bare(1), ring(5))]
        for half in halves:
            one = beside(half, ring(6))
            other = beside(half, ring(3), ring(3))
            for here, there in ((one, other), (turned_about(one), turned_about(other))):
                self.assertIsNone(order_to(here, led(there, drawn_order(source, 12))))
                self.assertIsNone(order_to(there, led(here, drawn_order(source, 12))))
                order = drawn_order(source, 12)
                first = order_to(here, led(here, order))
                self.assertTrue(plainly_leads(here, led(here, order), first))
                self.assertLessEqual(first, order)
        for share in (10, 30, 50, 70, 90):
            web = drawn_web(source, 12, share)
            order = drawn_order(source, 12)
            self.assertTrue(plainly_leads(web, led(web, order), order_to(web, led(web, order))))
        self.assertLess(time.process_time() - started, 20)

    def test_rings_and_rounds(self):
        rounds = [
            ring(12), beside(ring(6), ring(6)), beside(ring(3), ring(9)), beside(ring(4), ring(8)),
            beside(ring(5), ring(7)), beside(*[ring(3)] * 4), beside(*[ring(4)] * 3), beside(ring(3), ring(4), ring(5)),
        ]
        source = random.Random(5)
        for one, other in itertools.product(rounds, rounds):
            there = led(other, drawn_order(source, 12))
            order = order_to(one, there)
            self.assertEqual(order is not None, one is other)
            if order is not None:
                self.assertTrue(plainly_leads(one, there, order))

    def test_unlike_many_places(self):
        for one, other in (
                (bare(1), bare(2)), (bare(2), bare(1)), (ring(5), ring(6)), (full(12), full(11)), (ring(12), bare(3)),
                (bare(28), bare(27)), (full(13), ring(12)), (ring(12), full(28)), (pairs_out_of(8), field_web(25))):
            self.assertIsNone(order_to(one, other))
            self.assertIsNone(order_to(other, one))

    def test_too_many(self):
        source = random.Random(29)
        few = [((),), bare(2), ring(12), full(28), field_web(17)]
        much = [bare(29), full(29), prime_web(29), ring(29), bare(50), fifty_web(), ring(50), pairs_out_of(9)]
        uneven = [ring(13), ring(28), beside(full(12), bare(1)), drawn_web(source, 20, 50), beside(full(2), bare(26))]
        for web in much + uneven:
            for other in few + [web, turned_about(web), bare(len(web)), full(len(web))]:
                self.assert_refuses(TooMany, order_to, web, other)
                self.assert_refuses(TooMany, order_to, other, web)

    def test_not_too_many(self):
        for web in (ring(12), drawn_web(random.Random(1), 12, 40), bare(13), full(28), lots(14, 2), pairs_out_of(8)):
            self.assertEqual(order_to(web, web), tuple(range(len(web))))

    def test_known_ones(self):
        self.assertEqual(order_to(((),), ((),)), (0,))
        self.assertEqual(order_to(((1,), (0,), ()), ((), (2,), (1,))), (1, 2, 0))
        self.assertEqual(order_to(((), (2,), (1,)), ((1,), (0,), ())), (2, 0, 1))
        self.assertEqual(order_to(bare(28), bare(28)), tuple(range(28)))
        self.assertIsNone(order_to(bare(28), full(28)))
        self.assertIsNone(order_to(cubes(), spokes(8, {1, 4})))

    def test_kinds(self):
        for web in (((),), ring(5), grid(4), bare(12)):
            before = copied(web)
            order = order_to(web, web)
            self.assertIs(type(order), tuple)
            self.assertTrue(all(type(place) is int for place in order))
            self.assertEqual(order_to(web, web), order)
            self.assertEqual(web, before)


class ManyOrders(Refusing):
    def test_every_small_web_by_a_plain_search(self):
        for web in small_webs(4):
            self.assertEqual(many_orders(web), len(plain_orders(web, web)), web)

    def test_drawn_webs_by_a_plain_search(self):
        source = random.Random(3)
        for many in (5, 6):
            for share in (10, 20, 35, 50, 65, 80, 90):
                web = drawn_web(source, many, share)
                self.assertEqual(many_orders(web), len(plain_orders(web, web)), web)
                self.assertEqual(many_orders(led(web, drawn_order(source, many))), many_orders(web))
                self.assertEqual(many_orders(turned_about(web)), many_orders(web))

    def test_no_ties_and_all_tied(self):
        for many in range(1, 17):
            self.assertEqual(many_orders(bare(many)), math.factorial(many))
            self.assertEqual(many_orders(full(many)), math.factorial(many))

    def test_rings(self):
        for many in range(3, 11):
            self.assertEqual(many_orders(ring(many)), 2 * many)
            self.assertEqual(many_orders(turned_about(ring(many))), 2 * many)
        self.assertEqual(many_orders(beside(ring(5), ring(5))), 200)
        self.assertEqual(many_orders(beside(ring(3), ring(3), ring(4))), 72 * 8)
        self.assertEqual(many_orders(beside(ring(4), ring(6))), 96)

    def test_grids(self):
        self.assertEqual([many_orders(grid(m)) for m in (2, 3, 4)], [8, 72, 1152])
        self.assertEqual(many_orders(grid(4)), len(set(orders_of_grid(4))))

    def test_pairs(self):
        self.assertEqual([many_orders(pairs_out_of(m)) for m in (3, 4, 5, 6)], [6, 48, 120, 720])

    def test_lots(self):
        for many, size in ((1, 16), (16, 1), (2, 8), (8, 2), (4, 4), (3, 5), (5, 3), (7, 2), (2, 3)):
            told = math.factorial(size) ** many * math.factorial(many)
            self.assertEqual(many_orders(lots(many, size)), told)
            self.assertEqual(many_orders(turned_about(lots(many, size))), told)

    def test_other_even_webs(self):
        self.assertEqual(many_orders(leaning_grid()), 192)
        self.assertEqual(many_orders(turned_grid()), 192)
        self.assertEqual(many_orders(four_digit_web()), 1920)
        self.assertEqual(many_orders(field_web(13)), len(set(orders_of_field(13, 1))))
        self.assertEqual(many_orders(field_web(9)), len(set(orders_of_field(3, 2))))
        self.assertEqual(many_orders(field_web(5)), 10)

    def test_webs_of_ten_places(self):
        self.assertEqual(many_orders(beside(full(4), bare(6))), 24 * 720)
        self.assertEqual(many_orders(beside(cubes(), bare(2))), 96)
        # A row of ten places goes there and back.
        row = tuple(tuple(q for q in (p - 1, p + 1) if 0 <= q < 10) for p in range(10))
        self.assertEqual(many_orders(row), 2)
        arms = beside(((1, 2, 4), (0,), (0, 3), (2,), (0, 5), (4, 6), (5,)), bare(3))
        self.assertEqual(many_orders(arms), 6)

    def test_sixteen_places_in_short_time(self):
        started = time.process_time()
        source = random.Random(8)
        for web, numbers in even_webs():
            if len(web) <= 16:
                many = many_orders(web)
                self.assertEqual(many_orders(led(web, drawn_order(source, len(web)))), many)
                self.assertEqual(math.factorial(len(web)) % many, 0)
        self.assertLess(time.process_time() - started, 20)

    def test_too_many(self):
        source = random.Random(17)
        for many in (17, 18, 28, 29, 50):
            for web in (bare(many), full(many), ring(many), drawn_web(source, many, 50)):
                self.assert_refuses(TooMany, many_orders, web)
        self.assert_refuses(TooMany, many_orders, field_web(17))
        for many in (11, 12, 13, 16):
            for web in (ring(many), beside(full(2), bare(many - 2)), turned_about(ring(many))):
                self.assert_refuses(TooMany, many_orders, web)

    def test_kinds(self):
        for web in (((),), ring(5), grid(4), bare(16)):
            before = copied(web)
            self.assertIs(type(many_orders(web)), int)
            self.assertEqual(many_orders(web), many_orders(web))
            self.assertEqual(web, before)


def plain_knots(web, size):
    return sum(
        all(q in web[p] for p, q in itertools.combinations(some, 2))
        for some in itertools.combinations(range(len(web)), size))


def plain_alike(one, other):
    for size in (1, 2, 3, 4):
        if plain_knots(one, size) != plain_knots(other, size):
            return ("knots", size, plain_knots(one, size), plain_knots(other, size))
    order = plain_order_to(one, other)
    return ("order", order) if order else ("none",)


class Alike(Refusing):
    def test_every_two_small_webs_by_a_plain_search(self):
        webs = small_webs(3) + [web for web in small_webs(4) if len(web) == 4][::3]
        for one, other in itertools.product(webs, webs):
            self.assertEqual(alike(one, other), plain_alike(one, other), (one, other))

    def test_drawn_webs_by_a_plain_search(self):
        source = random.Random(23)
        told = {}
        for turn in range(150):
            one = drawn_web(source, 6, source.choice((30, 50, 70)))
            other = with_one_tie_changed(source, with_one_tie_changed(source, one))
            other = led(other, drawn_order(source, 6))
            answer = alike(one, other)
            self.assertEqual(answer, plain_alike(one, other))
            told[answer[:2] if answer[0] == "knots" else answer[0]] = True
        self.assertLessEqual({("knots", 3), "order", "none"}, set(told))

    def test_unlike_knots_of_each_size(self):
        for one, other, told in (
                (bare(3), bare(4), ("knots", 1, 3, 4)), (full(50), bare(1), ("knots", 1, 50, 1)),
                (bare(3), full(3), ("knots", 2, 0, 3)), (ring(50), bare(50), ("knots", 2, 50, 0)),
                (ring(6), beside(ring(3), ring(3)), ("knots", 3, 0, 2)),
                (ring(30), beside(ring(3), ring(27)), ("knots", 3, 0, 1)),
                (grid(4), turned_grid(), ("knots", 4, 8, 0)),
                (grid(4), leaning_grid(), ("knots", 4, 8, 0))):
            self.assertEqual(alike(one, other), told)
            self.assertEqual(alike(other, one), told[:2] + (told[3], told[2]))

    def test_the_least_size_goes_first(self):
        self.assertEqual(alike(full(4), bare(4)), ("knots", 2, 6, 0))
        self.assertEqual(alike(full(5), full(4)), ("knots", 1, 5, 4))

    def test_knots_are_told_where_orders_are_not(self):
        self.assertEqual(alike(fifty_web(), grid(7)), ("knots", 1, 50, 49))
        self.assertEqual(alike(bare(50), full(50)), ("knots", 2, 0, 1225))
        self.assertEqual(alike(beside(full(3), bare(20)), beside(ring(3), bare(21))), ("knots", 1, 23, 24))

    def test_orders(self):
        source = random.Random(4)
        for web in (((),), ring(5), ring(12), grid(4), leaning_grid(), pairs_out_of(8), field_web(25), bare(28)):
            there = led(web, drawn_order(source, len(web)))
            self.assertEqual(alike(web, there), ("order", order_to(web, there)))
            self.assertEqual(alike(there, web), ("order", order_to(there, web)))
        self.assertEqual(alike(ring(5), turned_about(ring(5))), ("order", (0, 2, 4, 1, 3)))

    def test_none(self):
        square = ((0, 1, 2, 3, 4), (1, 0, 3, 4, 2), (2, 3, 4, 0, 1), (3, 4, 1, 2, 0), (4, 2, 0, 1, 3))
        same_knots = [
            (ring(8), beside(ring(4), ring(4))), (ring(12), beside(ring(5), ring(7))), (cubes(), spokes(8, {1, 4})),
            (beside(ring(4), bare(1)), ((1, 2, 3, 4), (0,), (0,), (0,), (0,))),
        ]
        for one, other in same_knots:
            self.assertEqual(alike(one, other), ("none",))
            self.assertEqual(alike(other, one), ("none",))
        # Of webs with the same numbers either the knots of four places tell, or no order leads there.
        webs = chang_webs() + [pairs_out_of(8)]
        pairs = list(itertools.permutations(webs, 2))
        pairs.append((net_web(5, [square]), field_web(25)))
        for one, other in pairs:
            counts = (plain_knots(one, 4), plain_knots(other, 4))
            told = ("none",) if counts[0] == counts[1] else ("knots", 4) + counts
            self.assertEqual(alike(one, other), told)

    def test_knots_of_five_places_are_not_looked_at(self):
        one = (
            (1, 3, 4, 5, 6, 7), (0, 3, 4, 5, 6), (3, 4, 5, 7), (0, 1, 2, 4, 5, 6), (0, 1, 2, 3, 7), (0, 1, 2, 3, 6, 7),
            (0, 1, 3, 5, 7), (0, 2, 4, 5, 6))
        other = (
            (1, 2, 3, 5, 7), (0, 2, 3, 4, 6, 7), (0, 1, 3, 4), (0, 1, 2, 5, 6, 7), (1, 2, 5, 6, 7), (0, 3, 4, 6, 7),
            (1, 3, 4, 5, 7), (0, 1, 3, 4, 5, 6))
        self.assertEqual([plain_knots(one, size) for size in (1, 2, 3, 4, 5)], [8, 21, 21, 7, 1])
        self.assertEqual([plain_knots(other, size) for size in (1, 2, 3, 4, 5)], [8, 21, 21, 7, 0])
        self.assertEqual(alike(one, other), ("none",))
        self.assertEqual(alike(other, one), ("none",))

    def test_too_many(self):
        for web in (ring(13), ring(28), ring(50), bare(29), full(29), fifty_web(), grid(6), prime_web(29)):
            self.assert_refuses(TooMany, alike, web, web)
        self.assert_refuses(TooMany, alike, ring(13), beside(ring(6), ring(7)))
        self.assert_refuses(TooMany, alike, beside(ring(6), ring(7)), ring(13))
        self.assert_refuses(TooMany, alike, prime_web(29), turned_about(prime_web(29)))

    def test_kinds(self):
        for one, other in ((ring(5), ring(5)), (ring(8), beside(ring(4), ring(4))), (bare(2), full(2))):
            before = copied((one, other))
            told = alike(one, other)
            self.assertIs(type(told), tuple)
            self.assertEqual(alike(one, other), told)
            self.assertEqual((one, other), before)

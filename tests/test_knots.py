import itertools
import math
import random
import time
import unittest

from evenwebs.errors import TooMany
from evenwebs.knots import greatest_knot, many_knots
from refusing import Refusing
from things import (
    bare, copied, drawn_web, even_webs, fifty_web, four_digit_web, full, grid, lots, pairs_out_of, prime_web, ring,
    small_webs, web_where,
)


def is_knot(web, places):
    return all(q in web[p] for p, q in itertools.combinations(places, 2))


def plain_count(web, size):
    """A count over all sets of so many places."""
    return sum(is_knot(web, places) for places in itertools.combinations(range(len(web)), size))


def plain_greatest(web):
    return max(size for size in range(1, len(web) + 1) if plain_count(web, size) > 0)


def sides(many, size):
    """As many places as there are, in sides of this size; tied where they are of unlike sides."""
    return web_where(many, lambda p, q: p // size != q // size)


def coloured(many, size):
    """Like sides, but the places of a side lie far from one another."""
    return web_where(many, lambda p, q: p % size != q % size)


class ManyKnots(unittest.TestCase):
    def test_one_place(self):
        self.assertEqual([many_knots(((),), size) for size in (1, 2, 3, 4)], [1, 0, 0, 0])

    def test_every_small_web(self):
        for web in small_webs(5):
            for size in (1, 2, 3, 4):
                self.assertEqual(many_knots(web, size), plain_count(web, size), (web, size))

    def test_drawn_webs(self):
        source = random.Random(22)
        for many in (6, 7, 9, 12, 16):
            for share in (10, 40, 60, 80, 95):
                web = drawn_web(source, many, share)
                for size in (1, 2, 3, 4):
                    self.assertEqual(many_knots(web, size), plain_count(web, size), (web, size))

    def test_even_webs(self):
        for web, numbers in even_webs():
            n, k, a, b = numbers
            self.assertEqual(many_knots(web, 1), n)
            self.assertEqual(many_knots(web, 2), n * k // 2)
            self.assertEqual(many_knots(web, 3), n * k * (a or 0) // 6)
            if n < 20:
                self.assertEqual(many_knots(web, 4), plain_count(web, 4))

    def test_without_ties(self):
        for many in (1, 2, 3, 10, 50):
            self.assertEqual([many_knots(bare(many), size) for size in (1, 2, 3, 4)], [many, 0, 0, 0])

    def test_all_tied(self):
        for many in (1, 2, 3, 4, 5, 10, 25, 49, 50):
            for size in (1, 2, 3, 4):
                self.assertEqual(many_knots(full(many), size), math.comb(many, size))

    def test_known_ones(self):
        self.assertEqual([many_knots(ring(3), size) for size in (1, 2, 3, 4)], [3, 3, 1, 0])
        self.assertEqual([many_knots(ring(50), size) for size in (1, 2, 3, 4)], [50, 50, 0, 0])
        self.assertEqual([many_knots(fifty_web(), size) for size in (1, 2, 3, 4)], [50, 175, 0, 0])
        self.assertEqual([many_knots(grid(7), size) for size in (1, 2, 3, 4)], [49, 294, 14 * 35, 14 * 35])
        # Of pairs out of ten: all that share a thing, and for three of them also three things' pairs.
        self.assertEqual(
            [many_knots(pairs_out_of(10), size) for size in (1, 2, 3, 4)],
            [45, 360, 10 * math.comb(9, 3) + math.comb(10, 3), 10 * math.comb(9, 4)])

    def test_fifty_places_in_short_time(self):
        started = time.process_time()
        webs = [full(50), sides(50, 2), sides(50, 5), coloured(50, 25), drawn_web(random.Random(4), 50, 90)]
        for web in webs:
            for size in (1, 2, 3, 4):
                many_knots(web, size)
        self.assertEqual(many_knots(sides(50, 2), 4), math.comb(25, 4) * 16)
        self.assertEqual(many_knots(sides(50, 5), 3), math.comb(10, 3) * 125)
        self.assertEqual(many_knots(coloured(50, 25), 4), math.comb(25, 4) * 16)
        self.assertLess(time.process_time() - started, 20)

    def test_somewhat_beyond_is_not_refused(self):
        self.assertEqual(many_knots(full(6), 5), 6)
        self.assertEqual(many_knots(full(6), 6), 1)
        self.assertEqual(many_knots(full(6), 7), 0)

    def test_kinds(self):
        for web in (((),), full(3), bare(3), grid(3)):
            for size in (1, 2, 3, 4):
                self.assertIs(type(many_knots(web, size)), int)


class GreatestKnot(Refusing):
    def test_every_small_web(self):
        for web in small_webs(5):
            self.assertEqual(greatest_knot(web), plain_greatest(web), web)

    def test_drawn_webs(self):
        source = random.Random(7)
        for many in (6, 8, 10, 11):
            for share in (5, 20, 40, 50, 60, 70, 80, 90, 97):
                web = drawn_web(source, many, share)
                self.assertEqual(greatest_knot(web), plain_greatest(web), web)

    def test_a_knot_hidden_among_others(self):
        source = random.Random(9)
        for size in (8, 11, 14):
            hidden = set(source.sample(range(25), size))
            around = drawn_web(source, 25, 30)
            web = web_where(25, lambda p, q: q in around[p] or (p in hidden and q in hidden))
            self.assertGreaterEqual(greatest_knot(web), size)
            self.assertEqual(greatest_knot(web), self.by_walking(web))

    def by_walking(self, web):
        """Each knot in turn, its places rising; right where ties are few."""
        greatest = 0
        waiting = [(1, [q for q in row if q > p]) for p, row in enumerate(web)]
        while waiting:
            size, some = waiting.pop()
            greatest = max(greatest, size)
            waiting.extend((size + 1, [q for q in some if q > p and q in web[p]]) for p in some)
        return greatest

    def test_by_walking_all_knots(self):
        source = random.Random(25)
        for many in (20, 24, 25):
            for share in (20, 50, 65):
                web = drawn_web(source, many, share)
                self.assertEqual(greatest_knot(web), self.by_walking(web))

    def test_without_ties_and_all_tied(self):
        for many in range(1, 26):
            self.assertEqual(greatest_knot(bare(many)), 1)
            self.assertEqual(greatest_knot(full(many)), many)

    def test_known_ones(self):
        for many, told in ((3, 3), (4, 2), (5, 2), (25, 2)):
            self.assertEqual(greatest_knot(ring(many)), told)
        self.assertEqual(greatest_knot(prime_web(17)), 3)
        self.assertEqual(greatest_knot(four_digit_web()), 2)
        for m in range(2, 6):
            self.assertEqual(greatest_knot(grid(m)), m)
        for m in range(4, 8):
            self.assertEqual(greatest_knot(pairs_out_of(m)), m - 1)
        for many, size in ((2, 2), (5, 5), (3, 8), (12, 2), (1, 25), (25, 1)):
            self.assertEqual(greatest_knot(lots(many, size)), size)

    def test_many_ties_in_short_time(self):
        started = time.process_time()
        for size in range(1, 26):
            self.assertEqual(greatest_knot(sides(25, size)), -(-25 // size))
            self.assertEqual(greatest_knot(coloured(25, size)), size)
        source = random.Random(3)
        for share in (70, 75, 80, 85, 90, 95, 98):
            for turn in range(3):
                greatest_knot(drawn_web(source, 25, share))
        # In the other web of a ring no two places side by side are tied.
        self.assertEqual(greatest_knot(web_where(25, lambda p, q: (p - q) % 25 not in (1, 24))), 12)
        self.assertLess(time.process_time() - started, 20)

    def test_too_many(self):
        for many in (26, 27, 30, 49, 50):
            for web in (bare(many), full(many), ring(many)):
                self.assert_refuses(TooMany, greatest_knot, web)

    def test_the_size_agrees_with_the_count(self):
        for web in small_webs(4) + [grid(3), ring(5), pairs_out_of(5)]:
            greatest = greatest_knot(web)
            self.assertGreater(many_knots(web, greatest), 0)
            self.assertEqual(many_knots(web, greatest + 1), 0)

    def test_kinds(self):
        for web in (((),), full(25), bare(25), grid(3)):
            before = copied(web)
            self.assertIs(type(greatest_knot(web)), int)
            self.assertEqual(web, before)

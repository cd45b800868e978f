import itertools
import random
import time
import unittest

from evenwebs.errors import NoPlaces, TooMany
from evenwebs.turning import even_turns, is_odd, odd_threes, turn_to, turned_at
from evenwebs.webs import is_web
from refusing import Refusing
from things import (
    anything, bare, beside, copied, drawn_web, even_webs, fifty_web, full, grid, leaning_grid, lots, no_rising_places,
    pairs_out_of, prime_web, ring, small_webs, tied_anew, turned, turned_about,
)


def sets_of(places):
    """All sets of the places as rising tuples, fewer ahead of more and else as tuples compare."""
    return [some for size in range(len(places) + 1) for some in itertools.combinations(places, size)]


def drawn_places(source, many):
    return tuple(sorted(source.sample(range(many), source.randrange(many + 1))))


def plainly_odd(web, some):
    return sum(q in web[p] for p, q in itertools.combinations(some, 2)) in (1, 3)


def plain_odd_threes(web):
    return {some for some in itertools.combinations(range(len(web)), 3) if plainly_odd(web, some)}


def plainly_even(web):
    """Whether each place has as many ties, any two tied ones as many in common, any two others likewise."""
    near = {len(row) for row in web}
    for tied in (True, False):
        shared = {
            len(set(web[p]) & set(web[q]))
            for p, q in itertools.combinations(range(len(web)), 2) if (q in web[p]) == tied}
        if len(shared) > 1:
            return False
    return len(near) == 1


def plain_even_turns(web):
    return [some for some in sets_of(range(1, len(web))) if plainly_even(turned(web, some))]


class TurnedAt(Refusing):
    def test_every_small_web_at_all_places(self):
        for web in small_webs(4):
            for some in sets_of(range(len(web))):
                self.assertEqual(turned_at(web, some), turned(web, some), (web, some))

    def test_drawn_ones(self):
        source = random.Random(24)
        for many in (1, 2, 7, 13, 28, 50):
            for turn in range(5):
                web = drawn_web(source, many, 50)
                some = drawn_places(source, many)
                self.assertEqual(turned_at(web, some), turned(web, some))
                self.assertTrue(is_web(turned_at(web, some)))

    def test_known_ones(self):
        web = ((1,), (0, 2), (1,))
        self.assertEqual(turned_at(web, (0,)), ((2,), (2,), (0, 1)))
        self.assertEqual(turned_at(web, (1,)), bare(3))
        self.assertEqual(turned_at(web, (0, 2)), bare(3))
        self.assertEqual(turned_at(web, (1, 2)), ((2,), (2,), (0, 1)))
        self.assertEqual(turned_at(bare(4), (0, 1)), ((2, 3), (2, 3), (0, 1), (0, 1)))
        self.assertEqual(turned_at(((),), (0,)), ((),))

    def test_no_places_and_all_places(self):
        for web, numbers in even_webs():
            self.assertEqual(turned_at(web, ()), web)
            self.assertEqual(turned_at(web, tuple(range(len(web)))), web)

    def test_twice_and_at_the_others(self):
        source = random.Random(2)
        for many in (1, 2, 3, 5, 10, 25, 50):
            web = drawn_web(source, many, 40)
            for turn in range(4):
                some = drawn_places(source, many)
                others = tuple(place for place in range(many) if place not in some)
                there = turned_at(web, some)
                self.assertEqual(turned_at(there, some), web)
                self.assertEqual(turned_at(web, others), there)

    def test_one_place_behind_another(self):
        source = random.Random(9)
        web = drawn_web(source, 9, 50)
        for turn in range(10):
            some = drawn_places(source, 9)
            there = web
            for place in some:
                there = turned_at(there, (place,))
            self.assertEqual(there, turned_at(web, some))

    def test_no_places_of_the_web(self):
        for web in (bare(3), full(3), ring(5), grid(3), fifty_web()):
            for thing in no_rising_places(len(web)):
                self.assert_refuses(NoPlaces, turned_at, web, thing)

    def test_anything_at_a_web_of_one_place(self):
        for thing in anything():
            if thing != ():
                self.assert_refuses(NoPlaces, turned_at, ((),), thing)
        self.assert_refuses(NoPlaces, turned_at, ((),), (False,))

    def test_what_is_handed_in_stays(self):
        web, some = grid(3), (0, 4, 8)
        before = copied((web, some))
        told = turned_at(web, some)
        self.assertEqual((web, some), before)
        self.assertEqual(turned_at(web, some), told)


class IsOdd(unittest.TestCase):
    def test_every_three_places_of_small_webs_in_any_order(self):
        for web in small_webs(4):
            for some in itertools.permutations(range(len(web)), 3):
                self.assertIs(is_odd(web, *some), plainly_odd(web, some), (web, some))

    def test_known_ones(self):
        self.assertIs(is_odd(bare(3), 0, 1, 2), False)
        self.assertIs(is_odd(((1,), (0,), ()), 0, 1, 2), True)
        self.assertIs(is_odd(((1,), (0, 2), (1,)), 0, 1, 2), False)
        self.assertIs(is_odd(full(3), 2, 0, 1), True)
        self.assertIs(is_odd(full(50), 49, 0, 7), True)
        self.assertIs(is_odd(bare(50), 49, 0, 7), False)

    def test_turning_changes_none(self):
        source = random.Random(25)
        for many in (3, 5, 8, 12):
            web = drawn_web(source, many, 50)
            for turn in range(4):
                there = turned_at(web, drawn_places(source, many))
                for some in itertools.combinations(range(many), 3):
                    self.assertIs(is_odd(there, *some), is_odd(web, *some))


class OddThrees(unittest.TestCase):
    def test_every_small_web(self):
        for web in small_webs(4):
            self.assertEqual(odd_threes(web), len(plain_odd_threes(web)), web)

    def test_drawn_webs(self):
        source = random.Random(33)
        for many in (5, 9, 14, 20):
            for share in (10, 40, 60, 90):
                web = drawn_web(source, many, share)
                self.assertEqual(odd_threes(web), len(plain_odd_threes(web)))
                self.assertEqual(odd_threes(turned_at(web, drawn_places(source, many))), odd_threes(web))

    def test_known_ones(self):
        self.assertEqual([odd_threes(bare(many)) for many in (1, 2, 3, 50)], [0, 0, 0, 0])
        self.assertEqual([odd_threes(full(many)) for many in (1, 2, 3, 4, 50)], [0, 0, 1, 4, 19600])
        self.assertEqual([odd_threes(ring(many)) for many in (3, 4, 5)], [1, 0, 5])
        # Of even webs the numbers tell: three ties, or one tie and a place tied to neither end of it.
        for web, numbers in even_webs():
            n, k, a, b = numbers
            if a is not None:
                self.assertEqual(odd_threes(web), n * k * a // 6 + n * k // 2 * (n - 2 * k + a))

    def test_fifty_places_in_short_time(self):
        started = time.process_time()
        self.assertEqual(odd_threes(lots(2, 25)), 19600)
        self.assertLess(time.process_time() - started, 5)

    def test_kinds(self):
        for web in (((),), bare(2), full(3), grid(3)):
            before = copied(web)
            self.assertIs(type(odd_threes(web)), int)
            self.assertEqual(web, before)


class TurnTo(unittest.TestCase):
    def test_every_two_small_webs_by_a_plain_search(self):
        for many in (1, 2, 3, 4):
            webs = [web for web in small_webs(4) if len(web) == many]
            for one, other in itertools.product(webs, webs):
                there = [some for some in sets_of(range(1, many)) if turned(one, some) == other]
                self.assertLessEqual(len(there), 1)
                self.assertEqual(turn_to(one, other), there[0] if there else None, (one, other))

    def test_just_where_the_odd_threes_are_the_same(self):
        webs = [web for web in small_webs(4) if len(web) == 4]
        for one, other in itertools.product(webs, webs):
            same = plain_odd_threes(one) == plain_odd_threes(other)
            self.assertEqual(turn_to(one, other) is not None, same)

    def test_drawn_ones(self):
        source = random.Random(26)
        for many in (1, 2, 6, 11, 28, 50):
            for turn in range(5):
                web = drawn_web(source, many, 50)
                some = drawn_places(source, many)
                there = turned(web, some)
                told = tuple(place for place in range(many) if (place in some) != (0 in some))
                self.assertEqual(turn_to(web, there), told)
                self.assertEqual(turn_to(there, web), told)
                self.assertEqual(turned_at(web, told), there)

    def test_one_tie_more_is_no_turn(self):
        source = random.Random(1)
        for many in (3, 5, 10, 50):
            web = turned(bare(many), drawn_places(source, many))
            for p, q in ((0, 1), (1, 2), (many - 2, many - 1)):
                other = tied_anew(web, p, q)
                self.assertIsNone(turn_to(web, other))
                self.assertIsNone(turn_to(other, web))

    def test_known_ones(self):
        self.assertEqual(turn_to(((),), ((),)), ())
        self.assertEqual(turn_to(bare(2), full(2)), (1,))
        self.assertEqual(turn_to(bare(3), ((1, 2), (0,), (0,))), (1, 2))
        self.assertIsNone(turn_to(bare(3), full(3)))
        self.assertEqual(turn_to(grid(4), turned(grid(4), (0, 5, 10, 15))), tuple(
            place for place in range(16) if place not in (0, 5, 10, 15)))
        self.assertIsNone(turn_to(grid(4), leaning_grid()))
        self.assertEqual(turn_to(fifty_web(), fifty_web()), ())
        self.assertIsNone(turn_to(prime_web(29), turned_about(prime_web(29))))

    def test_kinds(self):
        one, other = ring(5), turned(ring(5), (1, 3))
        before = copied((one, other))
        told = turn_to(one, other)
        self.assertIs(type(told), tuple)
        self.assertTrue(all(type(place) is int for place in told))
        self.assertEqual((one, other), before)


class EvenTurns(Refusing):
    def test_every_small_web_by_a_plain_look(self):
        for web in small_webs(4):
            self.assertEqual(even_turns(web), plain_even_turns(web), web)

    def test_drawn_webs_by_a_plain_look(self):
        source = random.Random(7)
        for many in (5, 6, 7):
            for share in (10, 30, 50, 70, 90):
                web = drawn_web(source, many, share)
                self.assertEqual(even_turns(web), plain_even_turns(web), web)

    def test_even_webs_turned_by_a_plain_look(self):
        source = random.Random(10)
        webs = [web for web, numbers in even_webs() if len(web) <= 10] + [beside(ring(5), ring(5)), lots(5, 2)]
        for web in webs:
            there = turned(web, drawn_places(source, len(web)))
            told = even_turns(there)
            self.assertEqual(told, plain_even_turns(there))
            if plainly_even(web):
                self.assertIn(turn_to(there, web), told)

    def test_known_ones(self):
        self.assertEqual(even_turns(((),)), [()])
        self.assertEqual(even_turns(bare(2)), [(), (1,)])
        self.assertEqual(even_turns(ring(3)), [()])
        self.assertEqual(even_turns(full(4)), [(), (1, 2), (1, 3), (2, 3)])
        self.assertEqual(even_turns(beside(ring(3), bare(1))), [(1,), (2,), (3,), (1, 2, 3)])
        self.assertEqual(even_turns(beside(ring(5), bare(1))), [])
        self.assertEqual(even_turns(bare(9)), [()])
        self.assertEqual(even_turns(turned(bare(9), (3, 7))), [(3, 7)])
        # Of places without ties five are turned so that each of them is tied to each of the others.
        self.assertEqual(even_turns(bare(10)), [()] + list(itertools.combinations(range(1, 10), 5)))
        self.assertEqual(even_turns(pairs_out_of(5))[:3], [(), (1, 4, 7, 8), (2, 5, 7, 9)])
        self.assertEqual(len(even_turns(pairs_out_of(5))), 12)

    def test_fewer_go_ahead_of_more(self):
        for web in (pairs_out_of(5), grid(3), lots(2, 2), beside(ring(5), bare(1)), lots(2, 4), lots(2, 5)):
            told = even_turns(web)
            self.assertEqual(told, sorted(told, key=lambda some: (len(some), some)))
            self.assertEqual(len(told), len(set(told)))
            self.assertTrue(all(0 not in some for some in told))

    def test_a_new_list_each_time(self):
        web = pairs_out_of(5)
        before = copied(web)
        told = even_turns(web)
        kept = list(told)
        told.append("mine")
        self.assertEqual(even_turns(web), kept)
        self.assertIsNot(even_turns(web), even_turns(web))
        self.assertEqual(web, before)
        self.assertIs(type(kept), list)
        self.assertTrue(all(type(some) is tuple for some in kept))

    def test_ten_places_in_short_time(self):
        started = time.process_time()
        for web in (pairs_out_of(5), bare(10), full(10), ring(10), lots(5, 2)):
            even_turns(web)
        self.assertLess(time.process_time() - started, 20)

    def test_too_many(self):
        for many in (11, 12, 28, 50):
            for web in (bare(many), full(many), ring(many)):
                self.assert_refuses(TooMany, even_turns, web)

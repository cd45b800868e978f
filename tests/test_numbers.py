import itertools
import unittest

from evenwebs.errors import NoNumbers
from evenwebs.numbers import common, evenness, may_be_numbers, other_numbers, shows_uneven
from evenwebs.webs import other_web
from refusing import Refusing
from things import (
    anything, bare, copied, deep, even_webs, full, grid, lots, pairs_out_of, ring, small_webs, spokes, web_where,
)

PATH = ((1,), (0, 2), (1,))
# Two threes, each place of the one tied to one of the other.
PRISM = web_where(6, lambda p, q: p // 3 == q // 3 or p % 3 == q % 3)
# A lot of four beside two sides of three: the first unlike tie is not one of place 0.
FOUR_AND_SIDES = web_where(10, lambda p, q: max(p, q) < 4 or (min(p, q) > 3 and (p > 6) != (q > 6)))
# From place 0 all looks even; from place 1 on it doesn't.
EVEN_FROM_THE_FIRST = (
    (1, 2, 3), (0, 4, 6), (0, 5, 8), (0, 7, 9), (1, 5, 9), (2, 4, 6), (1, 5, 7), (3, 6, 8), (2, 7, 9), (3, 4, 8),
)


def shared(web, p, q):
    return sum(1 for place in range(len(web)) if p in web[place] and q in web[place])


def pairs_of(web, word):
    pairs = itertools.combinations(range(len(web)), 2)
    return [(p, q) for p, q in pairs if (q in web[p]) == (word == "tied")]


def evenness_by_the_words(web):
    for p in range(len(web)):
        if len(web[p]) != len(web[0]):
            return ("place", p)
    found = []
    for word in ("tied", "apart"):
        pairs = pairs_of(web, word)
        for p, q in pairs:
            if shared(web, p, q) != shared(web, *pairs[0]):
                return (word, p, q)
        found.append(shared(web, *pairs[0]) if pairs else None)
    return ("even", (len(web), len(web[0]), found[0], found[1]))


def is_paper_by_the_words(web, word, places):
    if word == "place":
        return len(places) == 2 and len(web[places[0]]) != len(web[places[1]])
    if len(places) != 4:
        return False
    p, q, r, s = places
    if p == q or r == s or (q in web[p]) != (word == "tied") or (s in web[r]) != (word == "tied"):
        return False
    return shared(web, p, q) != shared(web, r, s)


class Common(unittest.TestCase):
    def test_small_ones(self):
        self.assertEqual(common(PATH, 0, 2), 1)
        self.assertEqual(common(PATH, 0, 1), 0)
        self.assertEqual(common(ring(5), 0, 2), 1)
        self.assertEqual(common(ring(4), 0, 2), 2)
        self.assertEqual(common(full(50), 3, 49), 48)
        self.assertEqual(common(bare(50), 3, 49), 0)

    def test_either_way_about_and_by_the_words(self):
        for web in small_webs(4) + [PRISM, FOUR_AND_SIDES, grid(4), pairs_out_of(6)]:
            for p, q in itertools.product(range(len(web)), repeat=2):
                told = common(web, p, q)
                self.assertIs(type(told), int)
                self.assertEqual(told, shared(web, p, q))
                self.assertEqual(told, common(web, q, p))


class Evenness(unittest.TestCase):
    def test_the_ring_of_five(self):
        self.assertEqual(evenness(ring(5)), ("even", (5, 2, 0, 1)))

    def test_even_webs_with_their_numbers(self):
        for web, numbers in even_webs():
            with self.subTest(numbers):
                self.assertEqual(evenness(web), ("even", numbers))

    def test_one_place(self):
        self.assertEqual(evenness(((),)), ("even", (1, 0, None, None)))

    def test_no_ties_and_all(self):
        self.assertEqual(evenness(bare(2)), ("even", (2, 0, None, 0)))
        self.assertEqual(evenness(full(2)), ("even", (2, 1, 0, None)))
        self.assertEqual(evenness(bare(50)), ("even", (50, 0, None, 0)))
        self.assertEqual(evenness(full(50)), ("even", (50, 49, 48, None)))

    def test_lots_tied_within(self):
        self.assertEqual(evenness(lots(3, 4)), ("even", (12, 3, 2, 0)))
        self.assertEqual(evenness(other_web(lots(3, 4))), ("even", (12, 8, 4, 8)))

    def test_a_place_with_not_as_many_ties(self):
        self.assertEqual(evenness(PATH), ("place", 1))
        self.assertEqual(evenness(((), (2,), (1,))), ("place", 1))
        self.assertEqual(evenness(((1,), (0,), ())), ("place", 2))
        self.assertEqual(evenness(web_where(50, lambda p, q: {p, q} == {48, 49})), ("place", 48))
        self.assertEqual(evenness(web_where(50, lambda p, q: p < 49 and q < 49)), ("place", 49))

    def test_a_tied_pair_with_not_as_many_in_common(self):
        self.assertEqual(evenness(PRISM), ("tied", 0, 3))
        self.assertEqual(evenness(FOUR_AND_SIDES), ("tied", 4, 7))
        self.assertEqual(evenness(spokes(7, (1, 2))), ("tied", 0, 2))

    def test_a_pair_apart_with_not_as_many_in_common(self):
        self.assertEqual(evenness(ring(6)), ("apart", 0, 3))
        self.assertEqual(evenness(ring(50)), ("apart", 0, 3))
        self.assertEqual(evenness(EVEN_FROM_THE_FIRST), ("apart", 1, 5))

    def test_places_go_ahead_of_pairs_and_tied_ones_ahead_of_others(self):
        path_of_four = ((1,), (0, 2), (1, 3), (2,))
        self.assertEqual(evenness(path_of_four), ("place", 1))
        # Pairs of both kinds are unlike here; the first one apart, 0 and 2, would be ahead by its places.
        self.assertEqual(evenness(spokes(9, (3, 4))), ("tied", 0, 4))

    def test_every_small_web_by_the_words(self):
        for web in small_webs(5):
            self.assertEqual(evenness(web), evenness_by_the_words(web), web)

    def test_rounds_by_the_words(self):
        for many in (8, 9, 12):
            for leaps in itertools.combinations(range(1, many // 2 + 1), 2):
                web = spokes(many, leaps)
                self.assertEqual(evenness(web), evenness_by_the_words(web), (many, leaps))

    def test_kinds(self):
        told = evenness(ring(5))
        self.assertIs(type(told), tuple)
        self.assertIs(type(told[1]), tuple)
        self.assertEqual([type(number) for number in told[1]], [int] * 4)

    def test_the_other_web_is_even_of_the_other_numbers(self):
        for web, numbers in even_webs():
            with self.subTest(numbers):
                self.assertEqual(evenness(other_web(web)), ("even", other_numbers(numbers)))
        for web in small_webs(5):
            told = evenness(web)
            if told[0] == "even":
                self.assertEqual(evenness(other_web(web)), ("even", other_numbers(told[1])))
            else:
                self.assertNotEqual(evenness(other_web(web))[0], "even")

    def test_the_same_again(self):
        self.assertEqual(evenness(PRISM), evenness(PRISM))


class ShowsUneven(unittest.TestCase):
    def assert_none(self, web, thing):
        with self.subTest(repr(thing)[:80]):
            self.assertIs(shows_uneven(web, thing), False)

    def assert_right(self, web, thing):
        with self.subTest(repr(thing)[:80]):
            self.assertIs(shows_uneven(web, thing), True)

    def test_places(self):
        self.assert_right(PATH, ("place", 0, 1))
        self.assert_right(PATH, ("place", 1, 0))
        self.assert_right(PATH, ("place", 2, 1))
        self.assert_none(PATH, ("place", 0, 2))
        self.assert_none(PATH, ("place", 0, 0))
        self.assert_none(PATH, ("place", 1, 1))

    def test_tied_pairs(self):
        for p, q in ((0, 3), (3, 0)):
            for r, s in ((0, 1), (1, 0), (4, 5), (5, 4)):
                self.assert_right(PRISM, ("tied", p, q, r, s))
                self.assert_right(PRISM, ("tied", r, s, p, q))
                self.assert_none(PRISM, ("apart", p, q, r, s))
        self.assert_none(PRISM, ("tied", 0, 3, 1, 4))
        self.assert_none(PRISM, ("tied", 0, 1, 4, 5))
        self.assert_none(PRISM, ("tied", 0, 3, 0, 3))

    def test_what_is_told_tied_must_be(self):
        # 0 and 4 have two in common, but no tie.
        self.assertEqual((shared(PRISM, 0, 4), shared(PRISM, 0, 3)), (2, 0))
        for word in ("tied", "apart"):
            self.assert_none(PRISM, (word, 0, 4, 0, 3))
            self.assert_none(PRISM, (word, 0, 3, 0, 4))
            # One and itself have all ties in common, but are no pair.
            self.assert_none(PRISM, (word, 0, 0, 0, 3))
            self.assert_none(PRISM, (word, 0, 3, 0, 0))
            self.assert_none(PRISM, (word, 0, 0, 0, 4))
            self.assert_none(PRISM, (word, 0, 4, 1, 1))
            self.assert_none(PRISM, (word, 0, 0, 1, 1))

    def test_pairs_apart(self):
        for p, q in ((0, 3), (3, 0), (2, 5)):
            for r, s in ((0, 2), (2, 0), (3, 5)):
                self.assert_right(ring(6), ("apart", p, q, r, s))
                self.assert_right(ring(6), ("apart", r, s, p, q))
                self.assert_none(ring(6), ("tied", p, q, r, s))
        self.assert_none(ring(6), ("apart", 0, 3, 1, 4))
        self.assert_none(ring(6), ("apart", 0, 2, 1, 3))
        self.assert_none(ring(6), ("apart", 0, 1, 0, 2))

    def test_a_web_with_places_of_unlike_many_ties_may_have_any_paper(self):
        web = ((1, 2), (0, 2), (0, 1, 3), (2,))
        self.assert_right(web, ("place", 0, 2))
        self.assert_right(web, ("tied", 0, 1, 2, 3))
        self.assert_none(web, ("apart", 0, 3, 1, 3))

    def test_every_paper_of_small_webs(self):
        for web in small_webs(4):
            for size in (1, 2, 3, 4):
                for places in itertools.product(range(len(web)), repeat=size):
                    for word in ("place", "tied", "apart"):
                        expected = is_paper_by_the_words(web, word, places)
                        self.assertIs(shows_uneven(web, (word,) + places), expected, (web, word, places))

    def test_just_uneven_webs_have_a_paper(self):
        for web in small_webs(5):
            told = evenness(web)
            if told[0] == "even":
                continue
            if told[0] == "place":
                paper = ("place", 0, told[1])
            else:
                paper = (told[0],) + pairs_of(web, told[0])[0] + told[1:]
            self.assertIs(shows_uneven(web, paper), True, web)

    def test_even_webs_have_none(self):
        for web in (ring(5), grid(3), full(4), bare(4), lots(2, 3), ((),)):
            for size in (2, 4):
                for places in itertools.product(range(len(web)), repeat=size):
                    for word in ("place", "tied", "apart"):
                        self.assertIs(shows_uneven(web, (word,) + places), False)

    def test_places_beyond_or_below(self):
        for beyond in (-1, -2, -3, 3, 4, 50, 10 ** 59, -(10 ** 59)):
            self.assert_none(PATH, ("place", 0, beyond))
            self.assert_none(PATH, ("place", beyond, 0))
        for beyond in (-1, -3, -6, 6, 7):
            for at in range(4):
                for word, places in (("tied", (0, 3, 0, 1)), ("apart", (0, 3, 0, 2))):
                    web = PRISM if word == "tied" else ring(6)
                    self.assert_none(web, (word,) + places[:at] + (beyond,) + places[at + 1:])

    def test_other_parts_in_the_place_of_places(self):
        for part in (True, False, None, "0", "1", (1,), [1], {1: 1}, (), [], {}, deep(list, 50), deep(dict, 50)):
            for at in (1, 2):
                paper = ["place", 0, 1]
                paper[at] = part
                self.assert_none(PATH, tuple(paper))
            for at in (1, 2, 3, 4):
                paper = ["tied", 0, 3, 0, 1]
                paper[at] = part
                self.assert_none(PRISM, tuple(paper))
                paper = ["apart", 0, 3, 0, 2]
                paper[at] = part
                self.assert_none(ring(6), tuple(paper))

    def test_another_word(self):
        for word in (
            "", "even", "Place", "place ", " place", "places", "tied ", "aparts", "p", None, 0, True,
            ("place",), ["place"], {"place": 1}, ("tied",), deep(tuple, 50),
        ):
            self.assert_none(PATH, (word, 0, 1))
            self.assert_none(PRISM, (word, 0, 3, 0, 1))
            self.assert_none(ring(6), (word, 0, 3, 0, 2))

    def test_the_word_of_another_length(self):
        self.assert_none(PATH, ("tied", 0, 1))
        self.assert_none(PATH, ("apart", 0, 1))
        self.assert_none(((1, 2), (0, 2), (0, 1, 3), (2,)), ("place", 0, 1, 2, 3))
        self.assert_none(PATH, ("place", 0, 1, 0, 1))

    def test_too_few_and_too_many(self):
        for thing in ((), ("place",), ("place", 0), ("place", 0, 1, 2), ("place", 0, 1, 0), ("place", 0, 1) * 2):
            self.assert_none(PATH, thing)
        for thing in (("tied", 0, 3, 0), ("tied", 0, 3), ("tied", 0, 3, 0, 1, 0), ("tied", 0, 3, 0, 1, 0, 1)):
            self.assert_none(PRISM, thing)
        for thing in (("apart",), ("apart", 0, 3, 0), ("apart", 0, 3, 0, 2, 0), ("apart", 0, 3, 0, 2) + (0,) * 9000):
            self.assert_none(ring(6), thing)

    def test_told_otherwise_than_by_a_tuple(self):
        self.assert_none(PATH, ["place", 0, 1])
        self.assert_none(PATH, {"place": (0, 1)})
        self.assert_none(PATH, {0: "place", 1: 0, 2: 1})
        self.assert_none(PATH, "place")
        self.assert_none(PATH, ("place", (0, 1)))
        self.assert_none(PATH, (("place", 0, 1),))
        self.assert_none(PRISM, ["tied", 0, 3, 0, 1])
        self.assert_none(PRISM, ("tied", (0, 3), (0, 1)))

    def test_anything(self):
        for thing in anything():
            before = copied(thing)
            self.assert_none(PATH, thing)
            self.assert_none(((),), thing)
            self.assert_none(PATH, (thing, 0, 1))
            if thing.__class__ is not int:
                self.assert_none(PATH, ("place", thing, 1))
            self.assertEqual(thing, before)


class MayBeNumbers(unittest.TestCase):
    def test_just_what_may_be_among_like_things(self):
        numbers = [None, True, False, -1, 0, 1, 2, 3, 4]
        for thing in itertools.product(numbers, repeat=4):
            with self.subTest(thing):
                self.assertIs(may_be_numbers(thing), self.by_the_words(thing))

    def by_the_words(self, thing):
        n, k, a, b = thing
        if n.__class__ is not int or k.__class__ is not int or n < 1 or not 0 <= k <= n - 1:
            return False
        if (a is None) != (k == 0) or (b is None) != (k == n - 1):
            return False
        return (a is None or a.__class__ is int and 0 <= a < k) and (b is None or b.__class__ is int and 0 <= b <= k)

    def test_at_each_bound(self):
        for thing in (
            (1, 0, None, None), (2, 0, None, 0), (2, 1, 0, None), (3, 1, 0, 0), (3, 1, 0, 1), (3, 2, 1, None),
            (5, 2, 0, 1), (100, 0, None, 0), (100, 99, 98, None), (100, 99, 0, None), (100, 98, 97, 98),
            (100, 98, 0, 0), (100, 1, 0, 0), (100, 1, 0, 1),
        ):
            with self.subTest(thing):
                self.assertIs(may_be_numbers(thing), True)

    def test_beyond_each_bound(self):
        for thing in (
            (0, 0, None, None), (0, -1, None, None), (-1, 0, None, 0), (101, 0, None, 0), (101, 100, 99, None),
            (101, 2, 0, 1), (100, 100, 98, None), (100, 100, 99, 100), (5, -1, 0, 1), (5, 5, 3, None),
            (5, 2, -1, 1), (5, 2, 2, 1), (5, 2, 0, -1), (5, 2, 0, 3), (10 ** 59, 2, 0, 1), (5, 10 ** 59, 0, 1),
            (5, 2, 10 ** 59, 1), (5, 2, 0, 10 ** 59), (5, 2, -(10 ** 59), 1), (5, 2, 0, -(10 ** 59)),
        ):
            with self.subTest(thing):
                self.assertIs(may_be_numbers(thing), False)

    def test_none_just_where_it_must_be(self):
        for thing in (
            (1, 0, 0, None), (1, 0, None, 0), (1, 0, 0, 0), (2, 0, None, None), (2, 0, 0, 0), (2, 0, -1, 0),
            (2, 1, 0, 0), (2, 1, 0, 1), (2, 1, None, None), (5, 2, None, 1), (5, 2, 0, None), (5, 4, None, None),
            (5, 4, 3, 4), (5, 0, 0, None), (None, 0, None, None), (1, None, None, None), (None, None, None, None),
        ):
            with self.subTest(thing):
                self.assertIs(may_be_numbers(thing), False)

    def test_other_parts(self):
        for right in ((5, 2, 0, 1), (1, 0, None, None)):
            for at in range(4):
                for part in (True, False, "0", "1", "", (0,), [0], {}, (), [], deep(tuple, 50)):
                    self.assertIs(may_be_numbers(right[:at] + (part,) + right[at + 1:]), False)

    def test_told_otherwise(self):
        for thing in (
            [5, 2, 0, 1], {5: 2, 0: 1}, {0: 5, 1: 2, 2: 0, 3: 1}, "5201", (5, 2, 0), (5, 2, 0, 1, 0), (5, 2), (5,),
            ((5, 2, 0, 1),), ("even", (5, 2, 0, 1)), (1, 0), (1, 0, None), (1, 0, None, None, None),
        ):
            with self.subTest(thing):
                self.assertIs(may_be_numbers(thing), False)

    def test_anything(self):
        for thing in anything():
            before = copied(thing)
            self.assertIs(may_be_numbers(thing), False)
            for at in range(4):
                if thing.__class__ is int or thing is None:
                    continue
                self.assertIs(may_be_numbers((5, 2, 0, 1)[:at] + (thing,) + (5, 2, 0, 1)[at + 1:]), False)
            self.assertEqual(thing, before)


class OtherNumbers(Refusing):
    def assert_refused(self, thing):
        self.assert_refuses(NoNumbers, other_numbers, thing)

    def test_small_ones(self):
        for numbers, other in (
            ((5, 2, 0, 1), (5, 2, 0, 1)),
            ((10, 3, 0, 1), (10, 6, 3, 4)),
            ((9, 4, 1, 2), (9, 4, 1, 2)),
            ((4, 2, 0, 2), (4, 1, 0, 0)),
            ((50, 7, 0, 1), (50, 42, 35, 36)),
            ((100, 0, None, 0), (100, 99, 98, None)),
        ):
            self.assertEqual(other_numbers(numbers), other)
            self.assertEqual(other_numbers(other), numbers)

    def test_where_there_is_no_pair(self):
        self.assertEqual(other_numbers((1, 0, None, None)), (1, 0, None, None))
        self.assertEqual(other_numbers((2, 0, None, 0)), (2, 1, 0, None))
        self.assertEqual(other_numbers((2, 1, 0, None)), (2, 0, None, 0))
        self.assertEqual(other_numbers((7, 6, 5, None)), (7, 0, None, 0))

    def test_a_number_may_be_below_0(self):
        self.assertEqual(other_numbers((3, 1, 0, 0)), (3, 1, -1, 1))
        self.assertEqual(other_numbers((5, 3, 0, 0)), (5, 1, -3, -1))
        self.assertEqual(other_numbers((5, 3, 0, 3)), (5, 1, 0, -1))
        self.assertEqual(other_numbers((5, 4, 0, None)), (5, 0, None, -3))
        self.assertEqual(other_numbers((100, 98, 0, 0)), (100, 1, -98, -96))

    def test_what_was_told_below_0_is_refused_again(self):
        self.assert_refused(other_numbers((3, 1, 0, 0)))
        self.assert_refused(other_numbers((5, 4, 0, None)))

    def test_twice_it_is_the_first(self):
        found = 0
        for n in range(1, 13):
            for k in range(n):
                for a in range(k) if k else [None]:
                    for b in range(k + 1) if k < n - 1 else [None]:
                        other = other_numbers((n, k, a, b))
                        self.assertEqual(other[:2], (n, n - k - 1))
                        if may_be_numbers(other):
                            found += 1
                            self.assertEqual(other_numbers(other), (n, k, a, b))
        self.assertGreater(found, 100)

    def test_kinds(self):
        told = other_numbers((5, 2, 0, 1))
        self.assertIs(type(told), tuple)
        self.assertEqual([type(number) for number in told], [int] * 4)

    def test_what_may_not_be_numbers(self):
        for thing in (
            (0, 0, None, None), (101, 2, 0, 1), (5, 5, 0, 1), (5, 2, 2, 1), (5, 2, 0, 3), (5, 2, None, 1),
            (5, 2, 0, None), (5, 0, 0, 0), (True, 0, None, None), (1, False, None, None), (5, 2, False, True),
            [5, 2, 0, 1], (5, 2, 0), (5, 2, 0, 1, 0), ("5", 2, 0, 1), {}, (), None, "5 2 0 1",
        ):
            self.assert_refused(thing)

    def test_anything(self):
        for thing in anything():
            before = copied(thing)
            self.assert_refused(thing)
            self.assertEqual(thing, before)

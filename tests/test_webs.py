import unittest

from evenwebs.errors import NoPlaces
from evenwebs.webs import is_web, other_web, tied, ties, web_of
from refusing import Refusing
from things import anything, bare, copied, deep, full, ring, small_webs

PATH = ((1,), (0, 2), (1,))


class IsWeb(unittest.TestCase):
    def assert_none(self, thing):
        with self.subTest(repr(thing)[:80]):
            self.assertIs(is_web(thing), False)

    def test_webs(self):
        for many in (1, 2, 3, 7, 49, 50):
            for web in (bare(many), full(many), ring(many)):
                with self.subTest(repr(web)[:80]):
                    self.assertIs(is_web(web), True)

    def test_every_small_web(self):
        for web in small_webs(4):
            self.assertIs(is_web(web), True, web)

    def test_just_the_small_webs_among_like_things(self):
        rows = [(), (0,), (1,), (2,), (0, 1), (0, 2), (1, 2), (1, 0), (1, 1), (0, 1, 2), (3,), (-1,), (True,)]
        webs = [web for web in small_webs(3) if len(web) == 3]
        found = [(a, b, c) for a in rows for b in rows for c in rows if is_web((a, b, c))]
        self.assertEqual(len(found), 8)
        self.assertEqual(sorted(found), sorted(webs))

    def test_too_few_or_too_many_rows(self):
        self.assert_none(())
        for many in (51, 52, 100, 3000):
            self.assert_none(bare(many))
        self.assert_none(full(51))
        self.assert_none(ring(51))

    def test_rows_that_do_not_rise(self):
        self.assert_none(((2, 1), (0,), (0,)))
        self.assert_none(((1, 2), (2, 0), (0, 1)))
        self.assert_none(((1, 1), (0,)))
        self.assert_none(((1,), (0, 0)))
        self.assert_none(((1, 2, 2), (0, 2), (0, 1)))

    def test_a_place_tied_to_itself(self):
        self.assert_none(((0,),))
        self.assert_none(((0, 1), (0,)))
        self.assert_none(((1,), (0, 1)))
        self.assert_none(((), (), (2,)))

    def test_a_tie_told_one_way_alone(self):
        self.assert_none(((1,), ()))
        self.assert_none(((), (0,)))
        self.assert_none(((1,), (0, 2), ()))
        self.assert_none(((1,), (2,), (0,)))

    def test_places_beyond_or_below(self):
        self.assert_none(((1,),))
        self.assert_none(((-1,), (0,)))
        self.assert_none(((-1, 1), (0,)))
        self.assert_none(((-1, 1, 2), (0,), (0,)))
        self.assert_none(((2,), ()))
        self.assert_none(((1,), (0, 2)))
        self.assert_none(((-1,), (-2,)))
        self.assert_none(((10 ** 59,), (0,)))

    def test_truths_in_the_place_of_numbers(self):
        self.assert_none(((True,), (0,)))
        self.assert_none(((1,), (False,)))
        self.assert_none(((True,), (False,)))
        self.assert_none(((1,), (False, 2), (1,)))
        self.assert_none((False,))
        self.assert_none((True, True))

    def test_other_parts_in_the_place_of_numbers(self):
        for part in ("1", None, (1,), [1], {1: 1}, {}, (), deep(tuple, 57)):
            self.assert_none(((part,), (0,)))
            self.assert_none(((1, part), (0,)))

    def test_told_otherwise_than_by_tuples(self):
        self.assert_none(list(PATH))
        self.assert_none([list(row) for row in PATH])
        self.assert_none(([1], [0, 2], [1]))
        self.assert_none(((1,), [0, 2], (1,)))
        self.assert_none(([],))
        self.assert_none(({},))
        self.assert_none(("",))
        self.assert_none((None,))
        self.assert_none((0,))
        self.assert_none({0: (1,), 1: (0,)})
        self.assert_none(((), {}))
        self.assert_none(((), "01"))

    def test_anything(self):
        for thing in anything():
            self.assert_none(thing)
            self.assert_none((thing, ()) if thing != () else (thing, (0,)))

    def test_nothing_is_changed(self):
        for thing in anything() + [[[1], [0]], ([1], [0])]:
            before = copied(thing)
            is_web(thing)
            self.assertEqual(thing, before)


class WebOf(Refusing):
    def assert_refused(self, many, pairs):
        self.assert_refuses(NoPlaces, web_of, many, pairs)

    def test_no_pairs(self):
        for many in (1, 2, 3, 50):
            self.assertEqual(web_of(many, []), bare(many))

    def test_pairs_in_any_order_and_either_way_about(self):
        for pairs in (
            [(0, 1), (1, 2)], [(1, 2), (0, 1)], [(2, 1), (1, 0)], [(1, 0), (1, 2)],
            [(0, 1), (1, 0), (1, 2), (0, 1), (2, 1), (1, 2)],
        ):
            self.assertEqual(web_of(3, pairs), PATH)

    def test_the_rows_rise(self):
        self.assertEqual(web_of(4, [(3, 0), (0, 2), (1, 0)]), ((1, 2, 3), (0,), (0,), (0,)))

    def test_fifty_places(self):
        pairs = [(q, p) for p in range(50) for q in range(49, p, -1)]
        self.assertEqual(web_of(50, pairs), full(50))
        self.assertEqual(web_of(50, pairs + pairs), full(50))
        self.assertEqual(web_of(50, [(p, (p + 1) % 50) for p in range(50)]), ring(50))
        self.assertEqual(web_of(50, [(49, 0)]), ((49,),) + bare(48) + ((0,),))

    def test_what_is_made_is_a_web(self):
        for pairs in ([], [(0, 6)], [(6, 5), (5, 4), (4, 6)]):
            self.assertIs(is_web(web_of(7, pairs)), True)

    def test_somewhat_beyond_fifty_places_is_not_refused(self):
        self.assertEqual(web_of(51, [(50, 0)]), ((50,),) + bare(49) + ((0,),))

    def test_no_list(self):
        for thing in ((), ((0, 1),), {}, {(0, 1): True}, None, 0, 1, True, False, "", "01"):
            self.assert_refused(3, thing)

    def test_no_tuples_of_two(self):
        for part in (
            [0, 1], (0,), (), (0, 1, 2), 0, 1, True, False, None, "01", "", {}, {0: 1, 1: 0}, [], ((0, 1),),
        ):
            self.assert_refused(3, [part])
            self.assert_refused(3, [(0, 1), part])
            self.assert_refused(3, [part, (0, 1)])

    def test_no_two_unlike_places(self):
        for pair in (
            (0, 0), (2, 2), (0, 3), (3, 0), (-1, 0), (0, -1), (3, 4), (0, 10 ** 59), (-(10 ** 59), 1),
            (True, 0), (0, True), (False, 1), (1, False), (True, False), (True, 2), ("0", "1"), (0, "1"),
            (None, 1), (0, None), ((0,), (1,)), ([0], 1), (0, [1]), ({}, 1), (0, {}),
        ):
            self.assert_refused(3, [pair])
            self.assert_refused(3, [(0, 1), pair, (1, 2)])

    def test_one_place_has_no_pair(self):
        self.assert_refused(1, [(0, 0)])
        self.assert_refused(1, [(0, 1)])
        self.assertEqual(web_of(1, []), ((),))

    def test_anything(self):
        for thing in anything():
            if thing != []:
                self.assert_refused(3, thing)
            self.assert_refused(3, [thing])
            self.assert_refused(3, [(0, thing if thing != 1 and thing != 2 else 0)])

    def test_the_list_is_not_changed(self):
        for pairs in ([(2, 1), (0, 1), (1, 2)], [(0, 0)], [[0, 1]], (1, [2])):
            before = copied(pairs)
            try:
                web_of(3, pairs)
            except NoPlaces:
                pass
            self.assertEqual(pairs, before)

    def test_nothing_hangs_on_the_list_later(self):
        pairs = [(0, 1), (1, 2)]
        web = web_of(3, pairs)
        pairs.append((0, 2))
        pairs[0] = (2, 0)
        self.assertEqual(web, PATH)
        pairs.clear()
        self.assertEqual(web, PATH)

    def test_the_same_again(self):
        pairs = [(0, 1), (1, 2)]
        self.assertEqual(web_of(3, pairs), web_of(3, pairs))


class Ties(unittest.TestCase):
    def test_ties(self):
        self.assertEqual(ties(PATH), [(0, 1), (1, 2)])
        self.assertEqual(ties(ring(5)), [(0, 1), (0, 4), (1, 2), (2, 3), (3, 4)])
        self.assertEqual(ties(((),)), [])
        self.assertEqual(ties(bare(50)), [])
        self.assertEqual(ties(full(50)), [(p, q) for p in range(50) for q in range(p + 1, 50)])

    def test_told_as_a_list_of_tuples(self):
        told = ties(PATH)
        self.assertIs(type(told), list)
        self.assertEqual([type(tie) for tie in told], [tuple, tuple])

    def test_a_new_list_each_time(self):
        first = ties(PATH)
        first.append((0, 2))
        first[0] = None
        self.assertEqual(ties(PATH), [(0, 1), (1, 2)])
        self.assertIsNot(ties(PATH), ties(PATH))

    def test_every_small_web_is_made_of_its_ties(self):
        for web in small_webs(4):
            told = ties(web)
            self.assertEqual(told, sorted(told))
            self.assertTrue(all(p < q for p, q in told))
            self.assertEqual(web_of(len(web), told), web)

    def test_what_was_told_is_taken_again(self):
        self.assertEqual(web_of(50, ties(full(50))), full(50))


class Tied(unittest.TestCase):
    def test_both_ways_about(self):
        for one in range(3):
            for other in range(3):
                with self.subTest((one, other)):
                    self.assertIs(tied(PATH, one, other), abs(one - other) == 1)

    def test_never_one_and_itself(self):
        for web in (((),), full(2), full(50), ring(50)):
            for place in range(len(web)):
                self.assertIs(tied(web, place, place), False)

    def test_as_the_ties_tell(self):
        for web in small_webs(4):
            told = ties(web)
            for p in range(len(web)):
                for q in range(len(web)):
                    self.assertIs(tied(web, p, q), (min(p, q), max(p, q)) in told)

    def test_no_place_beyond_is_tied(self):
        for beyond in (-3, -2, -1, 3, 4, 50):
            for place in range(3):
                self.assertIs(tied(PATH, beyond, place), False)
                self.assertIs(tied(PATH, place, beyond), False)


class OtherWeb(unittest.TestCase):
    def test_of_no_ties_and_of_all(self):
        for many in (1, 2, 3, 50):
            self.assertEqual(other_web(bare(many)), full(many))
            self.assertEqual(other_web(full(many)), bare(many))

    def test_between(self):
        self.assertEqual(other_web(PATH), ((2,), (), (0,)))
        self.assertEqual(other_web(ring(5)), ((2, 3), (3, 4), (0, 4), (0, 1), (1, 2)))

    def test_tied_just_where_they_were_not(self):
        for web in small_webs(4):
            other = other_web(web)
            self.assertIs(is_web(other), True)
            self.assertEqual(len(other), len(web))
            for p in range(len(web)):
                for q in range(len(web)):
                    self.assertIs(tied(other, p, q), p != q and not tied(web, p, q))

    def test_the_other_one_of_the_other_one_is_the_first(self):
        for web in small_webs(4) + [ring(49), ring(50), full(50), bare(50)]:
            self.assertEqual(other_web(other_web(web)), web)

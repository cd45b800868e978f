import random

from book import Book, drawn_deed
from evenwebs.bench import Bench
from evenwebs.errors import NoDeed, NoName, NoPlaces, NoWeb, TooMany
from evenwebs.numbers import evenness
from evenwebs.turning import turned_at
from evenwebs.webs import other_web
from refusing import Refusing
from things import (
    anything, bare, copied, drawn_web, fifty_web, fits_as_place, full, grid, no_rising_places, pairs_out_of, ring,
    small_webs, turned, turned_about,
)

TWELVE = list("abcdefghijkl")
NO_NAMES = [
    "", "A", "aB", "a b", " a", "a ", "a1", "1", "_", "a_", "abcdefghi", "a" * 9, "a" * 2000, "\n", "a\n", "-",
    "\u00e4", "\u00df", "\u0430", "\uff41", "\u00aa", "a\u0301", "\ud800", "\x00", "`", "{", "Zz",
]


def all_of(bench):
    return [(name, bench.web(name), bench.numbers(name)) for name in bench.names()]


class BenchTests(Refusing):
    def assert_tells(self, bench, kept):
        self.assertEqual(bench.names(), sorted(kept))
        for name, web in kept.items():
            self.assertEqual(bench.web(name), web)

    def assert_refuses_and_stays(self, bench, error, asked, *handed):
        before = all_of(bench)
        self.assert_refuses(error, asked, *handed)
        self.assertEqual(all_of(bench), before)


class Put(BenchTests):
    def test_names_in_the_order_of_texts(self):
        bench = Bench()
        self.assertEqual(bench.names(), [])
        for name in ("b", "ab", "a", "zzzzzzzz", "aa", "z", "abcdefgh"):
            self.assertIsNone(bench.put(name, ring(5)))
        self.assertEqual(bench.names(), ["a", "aa", "ab", "abcdefgh", "b", "z", "zzzzzzzz"])

    def test_every_letter_is_one(self):
        for letter in "abcdefghijklmnopqrstuvwxyz":
            bench = Bench()
            bench.put(letter, bare(2))
            bench.put(letter * 8, bare(3))
            self.assertEqual(bench.names(), [letter, letter * 8])

    def test_every_web(self):
        bench = Bench()
        for web in small_webs(3) + [bare(50), full(50), fifty_web(), grid(7)]:
            bench.put("web", web)
            self.assertEqual(bench.web("web"), web)
            self.assertEqual(bench.numbers("web"), evenness(web))
        self.assertEqual(bench.names(), ["web"])

    def test_in_the_place_of_what_stood_there(self):
        bench = Bench()
        bench.put("a", ring(5))
        bench.put("b", bare(2))
        bench.put("a", full(3))
        self.assert_tells(bench, {"a": full(3), "b": bare(2)})
        bench.undo()
        self.assert_tells(bench, {"a": ring(5), "b": bare(2)})

    def test_what_is_no_name(self):
        bench = Bench()
        bench.put("a", ring(5))
        for thing in NO_NAMES + [["a"], ("a",), {"a": "a"}]:
            self.assert_refuses_and_stays(bench, NoName, bench.put, thing, ring(5))
            self.assert_refuses_and_stays(bench, NoName, bench.put, thing, None)
        for thing in anything():
            self.assert_refuses(NoName, bench.put, thing, ring(5))
            self.assert_refuses(NoName, bench.put, thing, thing)
        self.assert_tells(bench, {"a": ring(5)})

    def test_what_is_no_web(self):
        bench = Bench()
        bench.put("a", ring(5))
        wrong = [
            ((1,), ()), ((0,),), ((1,), (0,), (0,)), [()], [[1], [0]], ([1], [0]), ((1, 1), (0,)), ((2, 1), (0,), (0,)),
            ((True,), (0,)), ((1,), (False,)), ((1,), (-2,)), ((),) * 51, full(51), "2 #",
        ]
        for thing in wrong + anything():
            self.assert_refuses_and_stays(bench, NoWeb, bench.put, "a", thing)
            self.assert_refuses_and_stays(bench, NoWeb, bench.put, "b", thing)

    def test_the_thirteenth_name(self):
        bench = Bench()
        for name in TWELVE:
            bench.put(name, ring(5))
        self.assert_refuses_and_stays(bench, TooMany, bench.put, "m", ring(5))
        self.assert_refuses_and_stays(bench, TooMany, bench.put, "zzzzzzzz", ((),))
        for thing in ("A", "", "abcdefghi", None, [], 13, ("m",)):
            self.assert_refuses_and_stays(bench, NoName, bench.put, thing, ring(5))
            self.assert_refuses_and_stays(bench, NoName, bench.put, thing, None)
        for thing in (None, [], (), ((0,),), ((),) * 51, True):
            self.assert_refuses_and_stays(bench, NoWeb, bench.put, "m", thing)
        bench.put("c", grid(3))
        self.assertEqual(bench.web("c"), grid(3))
        self.assertEqual(bench.names(), TWELVE)
        bench.drop("d")
        bench.put("m", ring(4))
        self.assertEqual(bench.names(), list("abcefghijklm"))
        self.assert_refuses_and_stays(bench, TooMany, bench.put, "d", ring(5))
        bench.undo()
        bench.undo()
        self.assertEqual(bench.names(), TWELVE)
        self.assert_refuses_and_stays(bench, TooMany, bench.put, "m", ring(5))
        bench.undo()
        self.assertEqual(bench.web("c"), ring(5))
        for name in reversed(TWELVE):
            bench.undo()
        self.assertEqual(bench.names(), [])
        bench.put("m", ring(5))
        self.assertEqual(bench.names(), ["m"])


class Deeds(BenchTests):
    def test_tie(self):
        bench = Bench()
        bench.put("a", bare(3))
        self.assertIsNone(bench.tie("a", 0, 2))
        self.assertEqual(bench.web("a"), ((2,), (), (0,)))
        bench.tie("a", 2, 1)
        self.assertEqual(bench.web("a"), ((2,), (2,), (0, 1)))
        bench.tie("a", 2, 0)
        self.assertEqual(bench.web("a"), ((), (2,), (1,)))
        for times in range(3):
            bench.undo()
        self.assertEqual(bench.web("a"), bare(3))

    def test_tie_all_and_none(self):
        bench = Bench()
        bench.put("a", bare(6))
        for q in range(6):
            for p in range(q):
                bench.tie("a", q, p)
        self.assertEqual(bench.web("a"), full(6))
        for q in range(6):
            for p in range(q):
                bench.tie("a", p, q)
        self.assertEqual(bench.web("a"), bare(6))

    def test_turn(self):
        bench = Bench()
        bench.put("a", grid(4))
        self.assertIsNone(bench.turn("a", (0, 5, 10, 15)))
        self.assertEqual(bench.web("a"), turned(grid(4), (0, 5, 10, 15)))
        self.assertEqual(bench.numbers("a"), ("even", (16, 6, 2, 2)))
        bench.turn("a", ())
        bench.turn("a", tuple(range(16)))
        self.assertEqual(bench.web("a"), turned(grid(4), (0, 5, 10, 15)))
        bench.turn("a", (0, 5, 10, 15))
        self.assertEqual(bench.web("a"), grid(4))

    def test_turn_about(self):
        bench = Bench()
        bench.put("a", pairs_out_of(5))
        self.assertIsNone(bench.turn_about("a"))
        self.assertEqual(bench.web("a"), turned_about(pairs_out_of(5)))
        self.assertEqual(bench.numbers("a"), ("even", (10, 3, 0, 1)))
        bench.turn_about("a")
        self.assertEqual(bench.web("a"), pairs_out_of(5))

    def test_drop(self):
        bench = Bench()
        bench.put("a", ring(5))
        bench.put("b", ring(4))
        self.assertIsNone(bench.drop("a"))
        self.assert_tells(bench, {"b": ring(4)})
        self.assert_refuses_and_stays(bench, NoName, bench.web, "a")
        self.assert_refuses_and_stays(bench, NoName, bench.drop, "a")
        self.assertIsNone(bench.undo())
        self.assert_tells(bench, {"a": ring(5), "b": ring(4)})

    def test_each_deed_is_for_its_own_web(self):
        bench = Bench()
        for name in TWELVE:
            bench.put(name, ring(6))
        bench.tie("b", 0, 3)
        bench.turn("c", (1,))
        bench.turn_about("d")
        bench.drop("e")
        for name in TWELVE:
            if name not in "bcde":
                self.assertEqual(bench.web(name), ring(6))

    def test_deeds_that_change_nothing_can_be_undone_too(self):
        bench = Bench()
        bench.put("a", ring(5))
        bench.tie("a", 0, 2)
        before = bench.web("a")
        bench.put("a", before)
        bench.turn("a", ())
        bench.turn("a", (0, 1, 2, 3, 4))
        for times in range(3):
            self.assertEqual(bench.web("a"), before)
            bench.undo()
        self.assertEqual(bench.web("a"), before)
        bench.undo()
        self.assertEqual(bench.web("a"), ring(5))
        bench.undo()
        self.assertEqual(bench.names(), [])
        self.assert_refuses(NoDeed, bench.undo)

    def test_a_web_of_one_place(self):
        bench = Bench()
        bench.put("a", ((),))
        bench.turn_about("a")
        bench.turn("a", (0,))
        self.assertEqual(bench.web("a"), ((),))
        self.assert_refuses_and_stays(bench, NoPlaces, bench.tie, "a", 0, 0)
        for times in range(2):
            bench.undo()
            self.assertEqual(bench.names(), ["a"])
        bench.undo()
        self.assertEqual(bench.names(), [])


class Refused(BenchTests):
    def filled(self):
        bench = Bench()
        bench.put("a", ring(5))
        bench.put("b", grid(3))
        bench.put("gone", full(4))
        bench.drop("gone")
        return bench

    def test_names_that_are_not_there(self):
        bench = self.filled()
        for name in ["c", "gone", "aa", "abcdefgh"] + NO_NAMES + [["a"], ("a",), {"a": 1}]:
            self.assert_refuses_and_stays(bench, NoName, bench.tie, name, 0, 1)
            self.assert_refuses_and_stays(bench, NoName, bench.turn, name, (0,))
            for asked in (bench.turn_about, bench.drop, bench.web, bench.numbers):
                self.assert_refuses_and_stays(bench, NoName, asked, name)

    def test_anything_as_a_name(self):
        bench = self.filled()
        for name in anything():
            self.assert_refuses(NoName, bench.tie, name, 0, 1)
            self.assert_refuses(NoName, bench.turn, name, (0,))
            for asked in (bench.turn_about, bench.drop, bench.web, bench.numbers):
                self.assert_refuses(NoName, asked, name)
        self.assert_tells(bench, {"a": ring(5), "b": grid(3)})

    def test_no_name_goes_ahead_of_no_places(self):
        bench = self.filled()
        for name in ("c", "A", None, []):
            for thing in (0, 5, None, [], True):
                self.assert_refuses_and_stays(bench, NoName, bench.tie, name, thing, thing)
                self.assert_refuses_and_stays(bench, NoName, bench.turn, name, thing)

    def test_no_two_unlike_places(self):
        bench = self.filled()
        wrong = [
            (0, 0), (4, 4), (5, 5), (0, 5), (5, 0), (-1, 0), (0, -1), (0, 10 ** 59), (True, 0), (0, True), (False, 1),
            (True, False), (None, 0), (0, None), ("0", 1), (0, "1"), ((0,), 1), (0, [1]), ([0], [1]), ({}, 0), (0, {}),
            (None, None), ([], []),
        ]
        for one, other in wrong:
            self.assert_refuses_and_stays(bench, NoPlaces, bench.tie, "a", one, other)
        for thing in anything():
            if not fits_as_place(thing, 5):
                self.assert_refuses(NoPlaces, bench.tie, "a", thing, 0)
                self.assert_refuses(NoPlaces, bench.tie, "a", 0, thing)
        self.assert_tells(bench, {"a": ring(5), "b": grid(3)})

    def test_places_of_another_web(self):
        bench = self.filled()
        bench.tie("b", 8, 5)
        self.assert_refuses_and_stays(bench, NoPlaces, bench.tie, "a", 4, 5)
        bench.turn("b", (5, 8))
        self.assert_refuses_and_stays(bench, NoPlaces, bench.turn, "a", (5,))

    def test_no_places_to_turn_at(self):
        bench = self.filled()
        for thing in no_rising_places(5):
            self.assert_refuses_and_stays(bench, NoPlaces, bench.turn, "a", thing)
        self.assert_tells(bench, {"a": ring(5), "b": grid(3)})

    def test_no_deed_is_left(self):
        bench = Bench()
        self.assert_refuses(NoDeed, bench.undo)
        bench.put("a", ring(5))
        bench.undo()
        self.assert_refuses_and_stays(bench, NoDeed, bench.undo)
        self.assert_refuses_and_stays(bench, NoDeed, bench.undo)
        bench.put("a", ring(5))
        bench.undo()
        self.assertEqual(bench.names(), [])

    def test_what_is_refused_is_no_deed(self):
        bench = Bench()
        bench.put("a", ring(5))
        bench.tie("a", 0, 2)
        for error, asked, handed in (
                (NoName, bench.put, ("A", ring(5))), (NoWeb, bench.put, ("a", [])), (NoName, bench.tie, ("b", 0, 1)),
                (NoPlaces, bench.tie, ("a", 1, 1)), (NoPlaces, bench.turn, ("a", (1, 0))), (NoName, bench.turn, ("b", ())),
                (NoName, bench.turn_about, ("b",)), (NoName, bench.drop, ("b",)), (NoName, bench.web, ("b",))):
            self.assert_refuses(error, asked, *handed)
        bench.undo()
        self.assert_tells(bench, {"a": ring(5)})
        bench.undo()
        self.assert_tells(bench, {})
        self.assert_refuses(NoDeed, bench.undo)


class LongRows(BenchTests):
    def webs(self, source):
        return [drawn_web(source, many, 50) for many in (1, 2, 3, 5, 8)] + [grid(3), ring(5), bare(2), full(4)]

    def test_drawn_deeds_by_a_plain_book(self):
        for seed in range(6):
            source = random.Random(seed)
            webs = self.webs(source)
            bench = Bench()
            book = Book()
            for turn in range(150):
                if book.deeds and source.randrange(4) == 0:
                    bench.undo()
                    book.deeds.pop()
                else:
                    deed = drawn_deed(source, book.webs(), TWELVE[:4 + seed], webs)
                    getattr(bench, deed[0])(*deed[1:])
                    book.deeds.append(deed)
                self.assert_tells(bench, book.webs())

    def test_undone_back_to_the_beginning(self):
        source = random.Random(27)
        webs = self.webs(source)
        bench = Bench()
        book = Book()
        past = []
        for turn in range(300):
            past.append(all_of(bench))
            deed = drawn_deed(source, book.webs(), TWELVE, webs)
            getattr(bench, deed[0])(*deed[1:])
            book.deeds.append(deed)
        for before in reversed(past):
            bench.undo()
            self.assertEqual(all_of(bench), before)
        self.assertEqual(bench.names(), [])
        self.assert_refuses(NoDeed, bench.undo)

    def test_refused_deeds_in_between(self):
        source = random.Random(30)
        webs = self.webs(source)
        bench = Bench()
        book = Book()
        for turn in range(200):
            kept = book.webs()
            self.refused_once(source, bench, kept)
            if book.deeds and source.randrange(3) == 0:
                bench.undo()
                book.deeds.pop()
            else:
                deed = drawn_deed(source, kept, TWELVE, webs)
                getattr(bench, deed[0])(*deed[1:])
                book.deeds.append(deed)
            self.assert_tells(bench, book.webs())

    def refused_once(self, source, bench, kept):
        if kept and source.randrange(2):
            name = source.choice(sorted(kept))
            many = len(kept[name])
            self.assert_refuses(NoPlaces, bench.tie, name, source.randrange(many), many)
            self.assert_refuses(NoPlaces, bench.turn, name, (many,))
            self.assert_refuses(NoWeb, bench.put, name, kept[name] + (None,))
        else:
            self.assert_refuses(NoName, bench.drop, "nobody")
            self.assert_refuses(NoName, bench.put, "No", bare(1))


class Asked(BenchTests):
    def test_asking_changes_nothing(self):
        bench = Bench()
        bench.put("b", ring(5))
        bench.put("a", grid(3))
        for times in range(3):
            self.assertEqual(bench.names(), ["a", "b"])
            self.assertEqual(bench.web("b"), ring(5))
            self.assertEqual(bench.numbers("b"), ("even", (5, 2, 0, 1)))
        bench.undo()
        self.assertEqual(bench.names(), ["b"])

    def test_told_lists_changed_in_between(self):
        bench = Bench()
        bench.put("b", ring(5))
        bench.put("a", ring(4))
        told = bench.names()
        told.append("c")
        told.reverse()
        self.assertEqual(bench.names(), ["a", "b"])
        self.assertIsNot(bench.names(), bench.names())
        kept = bench.names()
        bench.drop("a")
        bench.put("z", bare(1))
        self.assertEqual(kept, ["a", "b"])
        web = bench.web("b")
        bench.tie("b", 0, 2)
        self.assertEqual(web, ring(5))

    def test_numbers(self):
        bench = Bench()
        for web in small_webs(4) + [grid(4), fifty_web(), ring(6), bare(50), full(50)]:
            bench.put("a", web)
            self.assertEqual(bench.numbers("a"), evenness(web))
        for web, told in (
                (((1,), (0,), ()), ("place", 2)), (ring(6), ("apart", 0, 3)), (ring(4), ("even", (4, 2, 0, 2))),
                (((),), ("even", (1, 0, None, None)))):
            bench.put("a", web)
            self.assertEqual(bench.numbers("a"), told)

    def test_numbers_after_each_deed(self):
        bench = Bench()
        bench.put("a", ring(5))
        bench.tie("a", 0, 2)
        self.assertEqual(bench.numbers("a"), ("place", 1))
        bench.turn_about("a")
        self.assertEqual(bench.numbers("a"), evenness(other_web(((1, 2, 4), (0, 2), (0, 1, 3), (2, 4), (0, 3)))))
        bench.undo()
        bench.undo()
        self.assertEqual(bench.numbers("a"), ("even", (5, 2, 0, 1)))
        bench.turn("a", (0,))
        self.assertEqual(bench.numbers("a"), evenness(turned_at(ring(5), (0,))))

    def test_two_benches_have_nothing_in_common(self):
        one = Bench()
        other = Bench()
        one.put("a", ring(5))
        self.assertEqual(other.names(), [])
        self.assert_refuses(NoDeed, other.undo)
        self.assert_refuses(NoName, other.web, "a")
        other.put("a", grid(3))
        other.turn_about("a")
        self.assertEqual(one.web("a"), ring(5))
        one.undo()
        self.assertEqual(one.names(), [])
        self.assertEqual(other.web("a"), turned_about(grid(3)))
        for name in TWELVE:
            one.put(name, bare(2))
        other.put("b", bare(1))
        self.assertEqual(other.names(), ["a", "b"])

    def test_what_is_handed_in_stays(self):
        bench = Bench()
        web = grid(3)
        before = copied(web)
        bench.put("a", web)
        bench.tie("a", 0, 4)
        bench.turn("a", (1, 2))
        bench.turn_about("a")
        self.assertEqual(web, before)
        bench.undo()
        bench.undo()
        bench.undo()
        self.assertEqual(bench.web("a"), before)

    def test_kinds(self):
        bench = Bench()
        bench.put("a", ring(5))
        self.assertIs(type(bench.names()), list)
        self.assertIs(type(bench.web("a")), tuple)
        self.assertIs(type(bench.numbers("a")), tuple)

import random

from book import Book, drawn_deed
from evenwebs.desk import Desk
from evenwebs.errors import NoDeed, NoName, NoPlaces, NoRow, TooMany
from evenwebs.texts import written
from refusing import Refusing
from things import (
    anything, bare, beside, drawn_web, fifty_web, full, grid, leaning_grid, lots, no_texts, pairs_out_of, ring,
    tied_anew, turned, turned_about,
)

FIVE = "5 # .# ..# #..#"
TWELVE = list("abcdefghijkl")
NAMES_THAT_ARE_NONE = ["A", "a1", "abcdefghi", "-", "a_b", "\u00e4", "\ud800", "a\tb", "a\n", "0", "none", "put"]


def filled():
    """A desk with a ring of five places, a grid of three by three and a web that is not even."""
    desk = Desk()
    for row in ("put five " + FIVE, "put grid " + written(grid(3)), "put bent 3 # .#"):
        desk.say(row)
    return desk


def all_of(desk):
    if desk.say("names") == "none":
        return []
    return [(name, desk.say("show " + name)) for name in desk.say("names").split(" ")]


class DeskTests(Refusing):
    def assert_says(self, desk, *rows_and_answers):
        for row, answer in zip(rows_and_answers[::2], rows_and_answers[1::2], strict=True):
            self.assertEqual(desk.say(row), answer, row)

    def assert_refuses_rows(self, desk, error, rows):
        before = all_of(desk)
        for row in rows:
            self.assert_refuses(error, desk.say, row)
            self.assertEqual(all_of(desk), before, row)


class Rows(DeskTests):
    def test_put_and_show(self):
        self.assert_says(
            Desk(), "put a 3 # .#", "ok", "show a", "3 # .#", "put a 1", "ok", "show a", "1", "put bcdefghi 2 .", "ok",
            "show bcdefghi", "2 .", "names", "a bcdefghi")

    def test_every_size_is_shown_as_it_was_put(self):
        desk = Desk()
        source = random.Random(29)
        for many in range(1, 51):
            text = written(drawn_web(source, many, 50))
            self.assert_says(desk, "put a " + text, "ok", "show a", text)

    def test_tie(self):
        self.assert_says(
            Desk(), "put a 3 . ..", "ok", "tie a 0 2", "ok", "show a", "3 . #.", "tie a 2 1", "ok", "show a", "3 . ##",
            "tie a 2 0", "ok", "show a", "3 . .#")

    def test_tie_of_two_figures(self):
        desk = Desk()
        desk.say("put a " + written(bare(50)))
        self.assert_says(desk, "tie a 49 10", "ok", "show a", written(tied_anew(bare(50), 10, 49)))

    def test_turn(self):
        desk = filled()
        for some in ((0,), (4,), (0, 1), (0, 2, 4), (0, 1, 2, 3, 4)):
            row = "turn five " + " ".join(str(place) for place in some)
            self.assert_says(desk, row, "ok", "show five", written(turned(ring(5), some)), "undo", "ok")

    def test_turn_at_fifty_places(self):
        desk = Desk()
        web = fifty_web()
        desk.say("put a " + written(web))
        some = tuple(range(0, 50, 3))
        row = "turn a " + " ".join(str(place) for place in some)
        self.assert_says(desk, row, "ok", "show a", written(turned(web, some)))
        row = "turn a " + " ".join(str(place) for place in range(50))
        self.assert_says(desk, row, "ok", "show a", written(turned(web, some)))

    def test_about_and_drop(self):
        self.assert_says(
            filled(), "about bent", "ok", "show bent", "3 . #.", "about bent", "ok", "show bent", "3 # .#",
            "drop five", "ok", "names", "bent grid", "drop bent", "ok", "drop grid", "ok", "names", "none")

    def test_undo(self):
        desk = Desk()
        self.assert_says(
            desk, "put a 3 # .#", "ok", "put a 2 #", "ok", "tie a 0 1", "ok", "turn a 0 1", "ok", "about a", "ok",
            "drop a", "ok", "names", "none", "undo", "ok", "show a", "2 #", "undo", "ok", "show a", "2 .", "undo", "ok",
            "show a", "2 .", "undo", "ok", "show a", "2 #", "undo", "ok", "show a", "3 # .#", "undo", "ok",
            "names", "none")
        self.assert_refuses_rows(desk, NoDeed, ["undo"])

    def test_numbers(self):
        desk = Desk()
        uneven = beside(ring(3), ring(4))
        for web, told in (
                (((),), "even 1 0 - -"), (bare(2), "even 2 0 - 0"), (full(2), "even 2 1 0 -"), (ring(5), "even 5 2 0 1"),
                (bare(50), "even 50 0 - 0"), (full(50), "even 50 49 48 -"), (fifty_web(), "even 50 7 0 1"),
                (pairs_out_of(5), "even 10 6 3 4"), (grid(4), "even 16 6 2 2"), (leaning_grid(), "even 16 6 2 2"),
                (((1,), (0,), ()), "place 2"), (((1,), (0, 2), (1,)), "place 1"), (ring(6), "apart 0 3"),
                (uneven, "tied 3 4"), (beside(ring(12), ring(3)), "tied 12 13"), (lots(10, 5), "even 50 4 3 0")):
            self.assert_says(desk, "put a " + written(web), "ok", "numbers a", told)

    def test_knots(self):
        desk = Desk()
        for web, told in (
                (((),), "1 0 0 0"), (full(5), "5 10 10 5"), (grid(4), "16 48 32 8"), (leaning_grid(), "16 48 32 0"),
                (bare(50), "50 0 0 0"), (full(50), "50 1225 19600 230300")):
            desk.say("put a " + written(web))
            self.assertEqual([desk.say(f"knots a {size}") for size in (1, 2, 3, 4)], told.split(" "))

    def test_threes(self):
        desk = Desk()
        for web, told in ((((),), "0"), (full(3), "1"), (bare(50), "0"), (full(50), "19600"), (ring(5), "5")):
            self.assert_says(desk, "put a " + written(web), "ok", "threes a", told)

    def test_names(self):
        desk = Desk()
        self.assert_says(desk, "names", "none")
        for name in ("b", "ab", "a", "zzzzzzzz", "none"):
            desk.say(f"put {name} 1")
        self.assert_says(desk, "names", "a ab b none zzzzzzzz")

    def test_words_of_rows_as_names(self):
        desk = Desk()
        for word in ("put", "tie", "turn", "about", "drop", "undo", "show", "numbers", "knots", "threes", "names"):
            self.assert_says(desk, f"put {word} 2 #", "ok", f"show {word}", "2 #")
        self.assert_says(desk, "names", "about drop knots names numbers put show threes tie turn undo")

    def test_answers_are_texts(self):
        desk = filled()
        for row in ("names", "show five", "numbers five", "knots five 1", "threes five", "tie five 0 1", "undo"):
            self.assertIs(type(desk.say(row)), str)


class NoRows(DeskTests):
    def test_blanks(self):
        rows = [
            "put five " + FIVE, "tie five 0 1", "turn five 0 1", "about five", "drop five", "undo", "show five",
            "numbers five", "knots five 1", "threes five", "names"]
        desk = filled()
        wrong = [""]
        for row in rows:
            wrong += [" " + row, row + " ", "  " + row, row + "\n", row + "\t", "\n" + row, "\t" + row, row.upper()]
            wrong += [row.replace(" ", blank, 1) for blank in ("  ", "\t", "\u00a0", "", "\n", " \t ") if " " in row]
            wrong += ["  ".join(row.rsplit(" ", 1))] if " " in row else []
        for row in wrong:
            # A name that holds a strange sign is still a word, so that only the name is wrong there.
            words = row.split(" ")
            if "" not in words and len(words) == 2 and words[0] in ("about", "drop", "show", "numbers", "threes"):
                self.assert_refuses_rows(desk, NoName, [row])
            else:
                self.assert_refuses_rows(desk, NoRow, [row])

    def test_blanks_in_the_place_of_a_name(self):
        self.assert_refuses_rows(filled(), NoRow, [
            "put  1", "put  2 #", "put  " + FIVE, "tie  0 1", "turn  0", "turn  0 1", "about ", "drop ", "show ",
            "numbers ", "knots  1", "threes ", "names ", "undo "])

    def test_a_word_too_few_or_too_many(self):
        self.assert_refuses_rows(filled(), NoRow, [
            "put", "put five", "put five 1 1", "put five 1 .", "put 1", "tie", "tie five", "tie five 0",
            "tie five 0 1 2", "turn", "turn five", "about", "about five five", "drop", "drop five five", "undo five",
            "undo undo", "undo 1", "show", "show five five", "numbers", "numbers five five", "knots", "knots five",
            "knots five 1 1", "threes", "threes five five", "names five", "names names"])

    def test_other_words(self):
        self.assert_refuses_rows(filled(), NoRow, [
            "", " ", "five", "Put five 1", "PUT five 1", "putt five 1", "ask five", "web five", "turn_about five",
            "knot five 1", "three five", "name", "none", "ok", "redo", "quit", "0", "#", "show\nfive", "__init__",
            "say undo", "bench", "even 5 2 0 1", "a" * 2000, "\ud800", "\x00"])

    def test_places_not_so_written(self):
        for word in (
                "00", "01", "04", "000", "001", "100", "049", "-1", "+1", "-0", "1.0", "1_0", "a", "0x1", "1,", "#",
                "\u0661", "\u00b2", "\uff11", "1\u0660", "True", "None", "()", "1\n", "\t1", "9" * 60):
            self.assert_refuses_rows(filled(), NoRow, [
                f"tie five {word} 2", f"tie five 2 {word}", f"turn five {word}", f"turn five 0 {word}",
                f"turn five {word} 4", f"knots five {word}", f"tie nobody {word} 2", f"turn nobody {word}",
                f"knots nobody {word}", f"tie No! 0 {word}", f"tie five 99 {word}", f"turn five 99 {word}"])

    def test_sizes(self):
        for size in (0, 5, 6, 9, 10, 14, 40, 99):
            self.assert_refuses_rows(filled(), NoRow, [f"knots five {size}", f"knots nobody {size}"])
        self.assert_refuses_rows(filled(), NoRow, ["knots five 01", "knots five 04", "knots five one", "knots 1 five"])

    def test_places_that_do_not_rise(self):
        self.assert_refuses_rows(filled(), NoRow, [
            "turn five 1 0", "turn five 0 0", "turn five 4 4", "turn five 0 1 1", "turn five 0 2 1", "turn five 1 0 2",
            "turn five 99 98", "turn five 0 99 0", "turn five 0 99 99", "turn five 10 9", "turn nobody 1 0", "turn A 2 2"])

    def test_places_rise_as_numbers(self):
        desk = Desk()
        desk.say("put a " + written(bare(50)))
        self.assert_says(desk, "turn a 9 10", "ok", "show a", written(turned(bare(50), (9, 10))))

    def test_webs_not_so_written(self):
        for text in (
                "0", "01", "1 ", "2", "2 #.", "2 ##", "2 x", "3 #", "3 # .", "3 # .# ...", "3 # .x", "02 #", "2 # .#",
                "two #", "3  # .#", "3 # .# ", "3\t# .#", "#", "-1", "1.", "\u0661", "51 " + written(bare(51))[3:],
                written(full(50)) + "#", written(bare(50))[:-1], "(())", "show five", "none"):
            self.assert_refuses_rows(filled(), NoRow, ["put five " + text, "put new " + text, "put NEW " + text])

    def test_rows_that_are_no_texts(self):
        desk = filled()
        before = all_of(desk)
        for thing in no_texts() + [["names"], ("names",), {"names": "names"}, ["show", "five"], ("undo",)]:
            self.assert_refuses(NoRow, desk.say, thing)
        self.assertEqual(all_of(desk), before)

    def test_anything(self):
        desk = Desk()
        for thing in anything():
            self.assert_refuses(NoRow, desk.say, thing)
        self.assert_says(desk, "names", "none")


class Refused(DeskTests):
    def test_places_beyond_the_web(self):
        self.assert_refuses_rows(filled(), NoPlaces, [
            "tie five 0 5", "tie five 5 0", "tie five 5 6", "tie five 99 98", "tie five 50 0", "tie bent 3 0",
            "turn five 5", "turn five 0 5", "turn five 99", "turn five 0 1 2 3 4 5", "turn bent 3", "turn grid 8 9",
            "turn five " + " ".join(str(place) for place in range(100))])

    def test_a_place_tied_to_itself(self):
        self.assert_refuses_rows(filled(), NoPlaces, ["tie five 0 0", "tie five 4 4", "tie five 5 5", "tie bent 1 1"])

    def test_names_that_are_not_there(self):
        desk = filled()
        for name in ["nobody", "fiv", "fivee"] + NAMES_THAT_ARE_NONE:
            self.assert_refuses_rows(desk, NoName, [
                f"tie {name} 0 1", f"turn {name} 0", f"about {name}", f"drop {name}", f"show {name}",
                f"numbers {name}", f"knots {name} 1", f"threes {name}", f"tie {name} 0 0", f"tie {name} 98 99",
                f"turn {name} 98 99"])

    def test_put_by_what_is_no_name(self):
        desk = filled()
        for name in NAMES_THAT_ARE_NONE:
            if name not in ("none", "put"):
                self.assert_refuses_rows(desk, NoName, [f"put {name} 1", f"put {name} {FIVE}"])

    def test_the_thirteenth_name(self):
        desk = Desk()
        for name in TWELVE:
            desk.say(f"put {name} 2 #")
        self.assert_refuses_rows(desk, TooMany, ["put m 1", "put aa " + FIVE])
        self.assert_refuses_rows(desk, NoName, ["put M 1", "put abcdefghi 1"])
        self.assert_refuses_rows(desk, NoRow, ["put m 0", "put m", "put m 2 x", "put M 2 x"])
        self.assert_says(desk, "put c 1", "ok", "show c", "1", "drop d", "ok", "put m 1", "ok")

    def test_no_deed_is_left(self):
        desk = Desk()
        self.assert_refuses_rows(desk, NoDeed, ["undo", "undo"])
        self.assert_says(desk, "put a 1", "ok", "undo", "ok")
        self.assert_refuses_rows(desk, NoDeed, ["undo"])

    def test_what_is_refused_is_no_deed(self):
        desk = Desk()
        self.assert_says(desk, "put a 3 # .#", "ok")
        self.assert_refuses_rows(desk, NoRow, ["put a 3", "tie a 0", "turn a 1 0", "knots a 5", ""])
        self.assert_refuses_rows(desk, NoPlaces, ["tie a 0 3", "turn a 3", "tie a 1 1"])
        self.assert_refuses_rows(desk, NoName, ["put A 1", "drop b", "about b", "show b"])
        self.assert_says(desk, "show a", "3 # .#", "undo", "ok", "names", "none")
        self.assert_refuses_rows(desk, NoDeed, ["undo"])

    def test_asking_is_no_deed(self):
        desk = Desk()
        self.assert_says(desk, "put a 2 #", "ok")
        for row in ("names", "show a", "numbers a", "knots a 2", "threes a"):
            self.assertEqual(desk.say(row), desk.say(row))
        self.assert_says(desk, "undo", "ok", "names", "none")
        self.assert_refuses_rows(desk, NoDeed, ["undo"])

    def test_two_desks_have_nothing_in_common(self):
        one = Desk()
        other = Desk()
        self.assert_says(one, "put a 2 #", "ok")
        self.assert_says(other, "names", "none")
        self.assert_refuses_rows(other, NoDeed, ["undo"])
        self.assert_says(other, "put a 1", "ok", "put b 1", "ok")
        self.assert_says(one, "undo", "ok", "names", "none")
        self.assert_says(other, "names", "a b", "show a", "1")


def row_of(deed):
    """A deed of the book as it is told to a desk."""
    if deed[0] == "put":
        return f"put {deed[1]} {written(deed[2])}"
    if deed[0] == "turn":
        return " ".join(["turn", deed[1]] + [str(place) for place in deed[2]])
    word = "about" if deed[0] == "turn_about" else deed[0]
    return " ".join([word] + [str(part) for part in deed[1:]])


class LongRows(DeskTests):
    def test_drawn_rows_by_a_plain_book(self):
        source = random.Random(31)
        webs = [drawn_web(source, many, 50) for many in (1, 2, 3, 5, 8, 13)] + [grid(3), turned_about(ring(5))]
        desk = Desk()
        book = Book()
        for turn in range(300):
            if book.deeds and source.randrange(4) == 0:
                self.assert_says(desk, "undo", "ok")
                book.deeds.pop()
            else:
                deed = drawn_deed(source, book.webs(), TWELVE, webs)
                if deed[0] == "turn" and not deed[2]:
                    self.assert_refuses_rows(desk, NoRow, [row_of(deed), row_of(deed) + " "])
                    continue
                self.assert_says(desk, row_of(deed), "ok")
                book.deeds.append(deed)
            told = [(name, written(web)) for name, web in sorted(book.webs().items())]
            self.assertEqual(all_of(desk), told)

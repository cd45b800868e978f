import unittest

from evenwebs.errors import NoText
from evenwebs.texts import read, written
from evenwebs.webs import is_web
from refusing import Refusing
from things import bare, copied, full, no_texts, ring, small_webs

PATH = ((1,), (0, 2), (1,))
NUMBERS_IN_OTHER_FIGURES = ("\u0661", "\uff11", "\u00b9", "\u2460", "\u0967", "\u4e00")


class Written(unittest.TestCase):
    def test_the_documents_own(self):
        self.assertEqual(written(PATH), "3 # .#")
        self.assertEqual(written(((),)), "1")

    def test_small_ones(self):
        self.assertEqual(written(bare(2)), "2 .")
        self.assertEqual(written(full(2)), "2 #")
        self.assertEqual(written(((2,), (), (0,))), "3 . #.")
        self.assertEqual(written(((3,), (), (), (0,))), "4 . .. #..")
        self.assertEqual(written(ring(5)), "5 # .# ..# #..#")

    def test_fifty_places(self):
        self.assertEqual(written(full(50)), " ".join(["50"] + ["#" * n for n in range(1, 50)]))
        self.assertEqual(written(bare(50)), " ".join(["50"] + ["." * n for n in range(1, 50)]))

    def test_figures_of_two(self):
        self.assertEqual(written(bare(10)).split(" ")[0], "10")
        self.assertEqual(len(written(bare(10)).split(" ")), 10)

    def test_no_two_webs_are_written_alike(self):
        webs = small_webs(4)
        self.assertEqual(len({written(web) for web in webs}), len(webs))


class Read(Refusing):
    def assert_refused(self, thing):
        self.assert_refuses(NoText, read, thing)

    def test_the_documents_own(self):
        self.assertEqual(read("3 # .#"), PATH)
        self.assertEqual(read("1"), ((),))

    def test_what_is_read_is_a_web(self):
        self.assertIs(is_web(read("3 # .#")), True)
        self.assertEqual(read("4 . .. #.."), ((3,), (), (), (0,)))

    def test_what_was_written_is_read_to_the_web(self):
        webs = small_webs(4)
        for many in (5, 9, 10, 11, 49, 50):
            webs.extend([bare(many), full(many), ring(many)])
        for web in webs:
            self.assertEqual(read(written(web)), web)

    def test_what_was_read_is_written_to_the_text(self):
        alternating = " ".join(["50"] + [("#." * 25)[:n] for n in range(1, 50)])
        for text in ("1", "2 .", "2 #", "3 # .#", "3 . #.", "5 # .# ..# #..#", alternating):
            self.assertEqual(written(read(text)), text)

    def test_just_what_is_written_among_like_texts(self):
        signs = "12#. 0"
        texts = [""]
        for length in range(4):
            texts.extend([text + sign for text in texts if len(text) == length for sign in signs])
        right = [text for text in texts if not self.is_refused(text)]
        self.assertEqual(sorted(right), ["1", "2 #", "2 ."])

    def is_refused(self, text):
        try:
            read(text)
        except NoText:
            return True
        return False

    def test_empty_and_blank(self):
        for text in ("", " ", "  ", "\n", "\t", "\x00"):
            self.assert_refused(text)

    def test_figures_otherwise(self):
        for text in (
            "01", "001", "02 #", "03 # .#", "0", "00", "-0", "+1", "-1", "+3 # .#", "-3 # .#", "1.", "1.0",
            "1_0", "0x1", "1e0", "one", "I", "x", "3# .#", "# .#", "3.0 # .#", " 3 # .#", "10", "11",
        ):
            self.assert_refused(text)
        for figure in NUMBERS_IN_OTHER_FIGURES:
            self.assert_refused(figure)
        for figure in ("\u0663", "\uff13", "\u00b3", "\u2462"):
            self.assert_refused(figure + " # .#")

    def test_too_few_or_too_many_places(self):
        self.assert_refused("0")
        self.assert_refused("0 ")
        self.assert_refused("0 #")
        for many in (51, 52, 60):
            for sign in "#.":
                self.assert_refused(" ".join([str(many)] + [sign * n for n in range(1, many)]))
        self.assert_refused("51")
        self.assert_refused("9" * 2000)

    def test_a_word_too_few_or_too_many(self):
        for text in ("2", "3", "3 #", "1 #", "1 .", "2 # .#", "3 # .# ...", "50", "4 # .#"):
            self.assert_refused(text)
        whole = written(ring(50))
        self.assert_refused(whole.rpartition(" ")[0])
        self.assert_refused(whole + " " + "." * 50)

    def test_a_sign_too_few_or_too_many(self):
        for text in ("2 ##", "2 ", "3 # #", "3 # .#.", "3 ## .#", "3 ## #", "3 .# #", "3  .#", "3 # "):
            self.assert_refused(text)
        whole = written(ring(50))
        self.assert_refused(whole[:-1])
        self.assert_refused(whole + "#")

    def test_other_signs(self):
        for sign in ("x", "0", "1", "-", "+", ",", ":", "\t", "\n", "\u00a0", "\uff0e", "\uff03", "\ud800", "\x00"):
            self.assert_refused("2 " + sign)
            self.assert_refused("3 # ." + sign)
            self.assert_refused("3 # " + sign + "#")

    def test_blanks_and_rows_ends(self):
        for text in ("1", "2 #", "3 # .#", written(ring(50))):
            for sign in (" ", "\n", "\t", "\r", "\r\n", "\v", "\f", "\u00a0", "\u2028", "\ufeff"):
                self.assert_refused(sign + text)
                self.assert_refused(text + sign)
        for text in ("3  # .#", "3 #  .#", "3   # .#", "2  #", "3\t# .#", "3 #\t.#", "3 #\n.#", "3 #\u00a0.#"):
            self.assert_refused(text)

    def test_no_text(self):
        for thing in no_texts():
            self.assert_refused(thing)

    def test_nothing_is_changed(self):
        for thing in no_texts():
            before = copied(thing)
            self.assertTrue(self.is_refused(thing))
            self.assertEqual(thing, before)

    def test_the_same_again(self):
        self.assertEqual(read("3 # .#"), read("3 # .#"))

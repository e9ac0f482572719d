"""Tests of the texts of column heads."""

from headskip.tolds import Blank, FullList, FullSpan, HoledList, HoledSpan, OpenList, OpenSpan, Told
from helpers import Case, odd_values, tolds_over

VOCABULARY = ("3", "-3", "~3", "~5", "5", "05", "-0", "+5", "5_0", "~", "", "to", "list", "blank", "holed", "open",
              "full", "x", "~-7", "--7", "9" * 40)


class Texts(Case):
    def test_texts(self):
        for told, text in (
            (FullSpan(3, 7), "3 to 7"), (HoledSpan(4, 9, True, False), "4 to ~9 holed"),
            (OpenSpan(2, 2, False, False), "~2 to ~2 open"), (FullSpan(-2, -2, False, True), "-2 to -2"),
            (OpenSpan(-10 ** 40, 0, False, True), "~-1" + "0" * 40 + " to 0 open"),
            (FullList(3), "list 3"), (HoledList(5, -4), "list -4 5 holed"), (OpenList(7, 0), "list 0 7 open"),
            (Blank(), "blank"),
        ):
            self.assertEqual(str(told), text)
            self.assertEqual(Told.read(text), told)

    def test_all_small_tolds_are_read(self):
        for told in tolds_over((-1, 0, 12)):
            found = Told.read(str(told))
            self.assertIs(type(found), type(told))
            self.assertEqual((found, found.wants), (told, told.wants))

    def test_words_that_cannot_stand(self):
        for text, word in (
            ("", 0), (" ", 0), ("full", 0), ("to", 0), ("~ to 3", 0), ("03 to 5", 0), ("-0 to 5", 0), ("3\nto 5", 0),
            ("\u0663 to 5", 0), ("\u00b2 to 5", 0), ("blank 3", 1), ("blank ", 1), ("blank holed", 1), ("3", 1), ("3 ", 1), ("3 7", 1), ("3 too 7", 1),
            ("3 to", 2), ("3 to 2", 2), ("3 to ~2", 2), ("3 to ~3", 2), ("~3 to 3", 2), ("3 to ", 2), ("3 to +5", 2),
            ("3 to 5 full", 3), ("3 to 5 ", 3), ("3 to 5 7", 3), ("3 to 5 holed open", 4), ("3 to 5 open ", 4),
            ("list", 1), ("list ", 1), ("list holed", 1), ("list ~3", 1), ("list 3 3", 2), ("list 3 2", 2),
            ("list 1 5 5", 3), ("list 0 1 2 3 4 5 6 7 8 9", 10), ("list 0 1 2 3 4 5 6 7 8 x", 10),
            ("list 3 open 5", 3), ("list 3  5", 2), ("list 3 holed holed", 3),
        ):
            self.unreadable(Told.read, text, word)

    def test_what_is_no_text(self):
        for value in odd_values():
            self.unreadable(Told.read, value, 0)

    def test_bent_texts(self):
        texts = ["blank", "3 to 5", "~3 to ~3 holed", "-3 to ~5 open", "list 3", "list -3 3 5 open",
                 "list 1 2 3 4 5 6 7 8 9 holed", "list 0 1 2 3 4 6 8 9"]
        self.check_texts(Told.read, texts, VOCABULARY, ())

    def test_a_missing_word_is_told_at_the_end(self):
        for text in ("3 to 5", "list 3", "~3 to ~3"):
            words = text.split(" ")
            for many in range(1, len(words)):
                self.unreadable(Told.read, " ".join(words[:many]), many)

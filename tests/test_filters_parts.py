"""Tests of the properties of filters, of filters made of filters, and of their texts."""

import itertools
import random

from headskip.errors import BadFilter, BadValue, TooMany
from headskip.filters import Always, Among, AtMost, Filter, Less, Missing, Never, Same
from helpers import Case, exactly, odd_values, random_filter

VOCABULARY = ("x", "rows", "X", "3", "-4", "05", "-0", "<", "<=", "=", "==", "in", "null", "not", "and", "or", "(", ")",
              "always", "never", "", "abcdefghi")


class Properties(Case):
    def test_columns_constants_links_len(self):
        for test, wanted in (
            (Less("x", 5), (("x",), (5,), (), 1)), (AtMost("y", "x"), (("x", "y"), (), (("x", "y"),), 1)),
            (Same("x", "x"), (("x",), (), (), 1)), (Among("y", 7, -2, 7), (("y",), (-2, 7), (), 1)),
            (Missing("z"), (("z",), (), (), 1)), (Always(), ((), (), (), 1)), (~Never(), ((), (), (), 1)),
            (~(Less("x", 5) | Same("y", "z") & Less(1, "y")), (("x", "y", "z"), (1, 5), (("y", "z"),), 3)),
            (Same("z", "y") & Less("y", "z") | Same("b", "a"), (("a", "b", "y", "z"), (), (("a", "b"), ("y", "z")), 3)),
        ):
            self.assertTrue(exactly((test.columns, test.constants, test.links, len(test)), wanted), str(test))

    def test_equal(self):
        tests = [Less("x", 5), Less(5, "x"), AtMost("x", 5), Same("x", 5), Same(5, "x"), Among("x", 5), Missing("x"),
                 Less("x", "y"), Less("y", "x"), Less("y", 5), Always(), Never(), ~Always(), Among("x", 5, 6)]
        tests += [one & other for one, other in itertools.permutations(tests[:3], 2)]
        tests += [tests[0] | tests[1], ~(tests[0] & tests[1]), (tests[0] & tests[1]) & tests[2],
                  tests[0] & (tests[1] & tests[2])]
        for at, one in enumerate(tests):
            for k, other in enumerate(tests):
                self.assertIs(one == other, at == k)
                self.assertIs(one != other, at != k)
            self.assertIs(one == str(one), False)
        self.assertEqual(Among("x", 7, 2, 2), Among("x", 2, 7))
        self.assertEqual(~(Less("x", 5) & Never()), ~(Less("x", 5) & Never()))
        for value in odd_values():
            self.assertIs(Missing("x") == value, False)


class Changed(Case):
    def test_renamed(self):
        test = Less("x", 5) & ~Same("y", "x") | Missing("z") & Among("y", 1, 2)
        self.assertEqual(str(test.renamed({"x": "b", "y": "x", "w": "x"})),
                         "( ( b < 5 and not x = b ) or ( z null and x in 1 2 ) )")
        self.assertEqual(test.renamed({"x": "y", "y": "x"}).renamed(names={"x": "y", "y": "x"}), test)
        self.assertEqual(test.renamed({}), test)
        self.assertEqual(Always().renamed({"x": "y", "z": "y"}), Always())

    def test_renamed_refusals(self):
        test = Less("x", 5) & Missing("y")
        for value in odd_values():
            if value not in ({}, {"x": "y"}):
                self.refuses(BadFilter("names"), test.renamed, value)
        for names in ({"x": "y"}, {"x": "z", "y": "z"}, {"x": "and"}, {"w": "X"}, {"x": "b", "abcdefghi": "c"},
                      {"w": None}, {1: "x"}, {"y": "x", "z": "w"}):
            self.refuses(BadFilter("names"), test.renamed, names)
        self.assertEqual(test.renamed({"w": "x", "v": "x"}), test)

    def test_shifted(self):
        test = ~(Less("x", 5) | AtMost(-5, "y")) & Among("x", 0, 9) & Missing("x") & Same("x", "y")
        self.assertEqual(str(test.shifted(10)),
                         "( ( ( not ( x < 15 or 5 <= y ) and x in 10 19 ) and x null ) and x = y )")
        self.assertEqual(test.shifted(by=10 ** 29).shifted(-10 ** 29), test)
        for value in odd_values():
            if type(value) is not int:
                self.refuses(BadValue(value), test.shifted, value)

    def test_mirrored(self):
        self.assertEqual(str(Less("x", 5).mirrored()), "-5 < x")
        self.assertEqual(str(Same("x", "y").mirrored()), "y = x")
        self.assertEqual(str((~AtMost(3, "x") | Among("y", 1, -2) & Never() & Missing("y")).mirrored()),
                         "( not x <= -3 or ( ( y in -1 2 and never ) and y null ) )")

    def test_truth_of_changed_filters(self):
        rng = random.Random(8)
        for _ in range(200):
            test = random_filter(rng, ["x", "y"], [-1, 0, 2], 5)
            mirrored, shifted, renamed = test.mirrored(), test.shifted(4), test.renamed({"x": "z"})
            self.assertEqual(mirrored.mirrored(), test)
            for x, y in itertools.product((-2, -1, 0, 1, 2, None), repeat=2):
                truth = test.truth({"x": x, "y": y})
                turned = {"x": None if x is None else -x, "y": None if y is None else -y}
                moved = {"x": None if x is None else x + 4, "y": None if y is None else y + 4}
                self.assertIs(mirrored.truth(turned), truth)
                self.assertIs(shifted.truth(moved), truth)
                self.assertIs(renamed.truth({"z": x, "y": y}), truth)

    def test_arguments_are_not_changed_and_not_kept(self):
        names = {"x": "y"}
        test = Less("x", 5).renamed(names)
        self.assertEqual(names, {"x": "y"})
        names["x"] = "z"
        self.assertEqual(test, Less("y", 5))


class Texts(Case):
    def test_texts(self):
        for test, text in (
            (Less("x", 5), "x < 5"), (AtMost("x", "y"), "x <= y"), (Same(-3, "x"), "-3 = x"),
            (Among("x", 4, 1), "x in 1 4"), (Missing("x"), "x null"), (Always(), "always"), (Never(), "never"),
            (~Missing("x"), "not x null"), (Less("x", 5) & Missing("y"), "( x < 5 and y null )"),
            (~(Less("x", 5) | Missing("y")), "not ( x < 5 or y null )"),
            (~Always() & (Never() | ~Among("x", -1)), "( not always and ( never or not x in -1 ) )"),
        ):
            self.assertEqual(str(test), text)
            self.assertEqual(Filter.read(text), test)
            self.assertIs(type(Filter.read(text)), type(test))

    def test_all_kinds_are_read(self):
        rng = random.Random(6)
        for _ in range(500):
            test = random_filter(rng, ["x", "y", "z"], [-7, 0, 3, 10 ** 29], 8)
            self.assertEqual(Filter.read(str(test)), test)

    def test_words_that_cannot_stand(self):
        for text, word in (
            ("", 0), ("rows", 0), ("X < 3", 0), ("05 < x", 0), ("-0 < x", 0), ("<", 0), (")", 0), ("abcdefghi = 3", 0),
            ("and", 0), ("x", 1), ("x x", 1), ("3", 1), ("3 in", 1), ("3 null", 1), ("x == 3", 1), ("( x )", 2),
            ("x <", 2), ("3 < 4", 2), ("x < null", 2), ("x < 03", 2), ("3 = -4", 2), ("x in", 2), ("x in y", 2),
            ("x in x", 2), ("x in 3 3", 3), ("x in 3 -4", 3), ("x in 3 04", 3), ("x in 1 2 3 4 5", 6),
            ("x < 3 and", 3), ("x null null", 2), ("always always", 1), ("never ", 1), ("not", 1), ("not not", 1),
            ("not not x < 3", 1), ("( x < 3", 4), ("( x < 3 )", 4), ("( x < 3 and", 5), ("( x < 3 and 3 )", 6),
            ("( x < 3 and y < 3", 8), ("( x < 3 and y < 3 or", 8), ("( x < 3 and y < 3 ) or", 9), ("x  < 3", 1),
            ("( x in 1 and y in 2 3 or", 9), ("( always or ( never and not", 7), ("x\n< 3", 0), ("(x < 3", 0),
            ("( " * 7 + ")", 7), ("( " * 8 + "x < 3", 7),
        ):
            self.unreadable(Filter.read, text, word)

    def test_seven_brackets_can_be_open(self):
        text = "always"
        for _ in range(7):
            text = f"( {text} or never )"
        self.assertEqual(str(Filter.read(text)), text)
        self.unreadable(Filter.read, f"( {text} or never )", 7)
        self.unreadable(Filter.read, "( always or " * 7 + "( always", 21)
        self.unreadable(Filter.read, "( ( always or never ) and " * 6 + "( (", 43)

    def test_what_is_no_text(self):
        for value in odd_values():
            if value not in ("x", "y", "low", "x < 5"):
                self.unreadable(Filter.read, value, 0)

    def test_what_is_raised_when_all_words_can_stand(self):
        for text, error in (
            ("( x in 1 2 3 4 and y < 5 )", TooMany("constants", 4)),
            ("( x < y and y < z )", TooMany("linked", 2)),
            ("( always or ( always or ( always or ( ( always and never ) or ( ( always and never ) or "
             "( always or ( always or always ) ) ) ) ) ) )", TooMany("comparisons", 8)),
            ("( ( x < y and y < z ) or ( x in 1 2 3 4 and y < 5 ) )", TooMany("linked", 2)),
            ("( ( x in 1 2 3 4 and y < 5 ) or ( x < y and y < z ) )", TooMany("constants", 4)),
            ("( ( x in 1 2 and x in 3 4 ) or ( ( y < 5 and x < y ) and not z < y ) )", TooMany("linked", 2)),
        ):
            self.refuses(error, Filter.read, text)
            self.unreadable(Filter.read, text + " )", len(text.split(" ")))

    def test_bent_texts(self):
        texts = ["x < 5", "-3 <= x", "x = y", "x in -2 1 4 7", "y null", "not x in 3", "always",
                 "( x < 3 and not ( y null or never ) )", "not ( ( x in 1 2 or y < 3 ) and x = y )"]
        self.check_texts(Filter.read, texts, VOCABULARY)

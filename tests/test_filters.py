"""Tests of filters: making and joining them, and their truths."""

import itertools
import random

from headskip.errors import BadFilter, BadName, BadRow, NoName, TooMany
from headskip.filters import (
    Always, Among, AtMost, Both, Compared, Either, Filter, Fixed, Joined, Less, Missing, Never, Picked, Same, Turned,
)
from headskip.values import is_name
from helpers import Case, exactly, odd_values, random_filter

COMPARED = (Less, AtMost, Same)
GREAT = 10 ** 29


def no_terms():
    return [value for value in odd_values() if value not in ("x", "y", "low") and type(value) is not int]


def no_names():
    return [value for value in odd_values() if value not in ("x", "y", "low")]


class Names(Case):
    def test_names(self):
        for name in ("a", "z", "abcdefgh", "nulls", "row", "ins", "selfs"):
            self.assertTrue(is_name(name))
        for name in ("and", "or", "not", "in", "null", "always", "never", "rows", "self", "", "A", "a1", "a_b", "a b",
                     "abcdefghi", " a", "a\n", "-", None, 3, ("a",), ["a"], {"a": 1}):
            self.assertFalse(is_name(name))


class Classes(Case):
    def test_bases(self):
        bases = {
            Compared: Filter, Less: Compared, AtMost: Compared, Same: Compared, Picked: Filter, Among: Picked,
            Missing: Picked, Joined: Filter, Both: Joined, Either: Joined, Turned: Filter, Fixed: Filter,
            Always: Fixed, Never: Fixed,
        }
        for made, base in bases.items():
            self.assertEqual(made.__bases__, (base,))
            self.assertEqual(made.__module__, "headskip.filters")

    def test_methods_stand_in_the_class_itself(self):
        for name in ("truth", "columns", "constants", "links", "renamed", "shifted", "mirrored", "read", "__call__",
                     "__and__", "__or__", "__invert__", "__eq__", "__len__", "__str__"):
            self.assertIn(name, vars(Filter))
        for made in (*COMPARED, Among, Missing, Always, Never):
            self.assertIn("__init__", vars(made))

    def test_what_operators_make(self):
        one, other = Less("x", 3), Missing("y")
        self.assertIs(type(one & other), Both)
        self.assertIs(type(one | other), Either)
        self.assertIs(type(~one), Turned)
        self.assertIs(type(~~one), Less)
        self.assertEqual(~~~(one & other), ~(one & other))


class Making(Case):
    def test_attributes(self):
        for made in COMPARED:
            for one, other in (("x", 3), (-3, "x"), ("x", "y"), ("x", "x"), (GREAT, "abcdefgh")):
                test = made(one, other)
                self.assertTrue(exactly((test.one, test.other), (one, other)))
                self.assertEqual(made(other=other, one=one), test)
        self.assertEqual(Among("x", 7, 2, 7).column, "x")
        self.assertTrue(exactly(Among("x", 7, 2, 7).constants, (2, 7)))
        self.assertEqual(Missing(column="y").column, "y")

    def test_compared_refusals(self):
        for made in COMPARED:
            for value in no_terms():
                self.refuses(BadFilter("one"), made, value, None)
                self.refuses(BadFilter("other"), made, "x", value)
                self.refuses(BadFilter("other"), made, 3, other=value)
            self.refuses(BadFilter("column"), made, 3, 3)
            self.refuses(BadFilter("column"), made, -GREAT, GREAT)

    def test_picked_refusals(self):
        for value in no_names():
            self.refuses(BadName(value), Missing, value)
            self.refuses(BadName(value), Among, value)
            self.refuses(BadName(value), Among, value, "y", 3)
        for value in odd_values():
            if type(value) is not int:
                self.refuses(BadFilter(0), Among, "x", value)
                self.refuses(BadFilter(5), Among, "x", 1, 2, 3, 4, 5, value, "y")
        self.refuses(BadFilter("values"), Among, "x")
        self.refuses(TooMany("constants", 4), Among, "x", 1, 2, 3, 4, 5)
        self.assertEqual(Among("x", 4, 4, 3, 2, 1, 1, 2).constants, (1, 2, 3, 4))

    def test_with_what_is_no_filter(self):
        for test in (Less("x", 3), Always(), ~Missing("x"), Less("x", 3) | Never()):
            for value in odd_values():
                if not isinstance(value, Filter):
                    self.refuses(BadFilter("with"), lambda: test & value)
                    self.refuses(BadFilter("with"), lambda: test | value)


class Limits(Case):
    def test_comparisons(self):
        test = Missing("x")
        for _ in range(7):
            test = test & Always()
        self.assertEqual(len(test), 8)
        self.assertEqual(len(~test), 8)
        for more in (Never(), ~Always(), Same("x", "y")):
            self.refuses(TooMany("comparisons", 8), lambda: test | more)
            self.refuses(TooMany("comparisons", 8), lambda: more & test)

    def test_constants(self):
        test = Among("x", 1, 2) | Less("y", 3) | ~Less(4, "z")
        self.assertEqual((test & Same("w", 4)).constants, (1, 2, 3, 4))
        for more in (Less("x", 5), Among("x", 1, 2, 3, 5), ~Same(0, "z")):
            self.refuses(TooMany("constants", 4), lambda: test & more)
            self.refuses(TooMany("constants", 4), lambda: more | test)

    def test_linked(self):
        test = Less("x", "y") & Same("z", "w")
        self.assertEqual(test.links, (("w", "z"), ("x", "y")))
        self.assertEqual((test & Less("y", "x") & Less("y", "y") & Less("v", "v")).links, test.links)
        for more in (Less("y", "z"), ~Less("w", "v"), Same("v", "x")):
            self.refuses(TooMany("linked", 2), lambda: test & more)
            self.refuses(TooMany("linked", 2), lambda: more | test)

    def test_which_one_comes_first(self):
        many = Among("x", 1, 2, 3, 4) & Less("x", "y")
        for _ in range(3):
            many = many & Always() & Always()
        self.assertEqual(len(many), 8)
        self.refuses(TooMany("comparisons", 8), lambda: many & (Less("y", "z") | Less("z", 9)))
        few = Among("x", 1, 2, 3, 4) & Less("x", "y")
        self.refuses(TooMany("constants", 4), lambda: few & (Less("y", "z") | Less("z", 9)))
        self.refuses(TooMany("linked", 2), lambda: few & (Less("y", "z") | Less("z", 4)))


def truth_by_words(words, row):
    """The truth of a filter, read from its text: a second way to tell it."""
    word = words.pop(0)
    if word == "not":
        truth = truth_by_words(words, row)
        return None if truth is None else not truth
    if word == "(":
        one, joint, other = truth_by_words(words, row), words.pop(0), truth_by_words(words, row)
        words.pop(0)
        ends = (one, other)
        decisive = joint == "or"
        return decisive if decisive in ends else None if None in ends else not decisive
    if word in ("always", "never"):
        return word == "always"
    return comparison_by_words(word, words.pop(0), words, row)


def comparison_by_words(word, sign, words, row):
    one = row[word] if word in row else int(word)
    if sign == "null":
        return one is None
    if sign == "in":
        numbers = []
        while words and words[0].lstrip("-").isdigit():
            numbers.append(int(words.pop(0)))
        return None if one is None else one in numbers
    other = words.pop(0)
    other = row[other] if other in row else int(other)
    if one is None or other is None:
        return None
    return {"<": one < other, "<=": one <= other, "=": one == other}[sign]


class Truth(Case):
    def test_comparisons(self):
        for x in (1, 2, 3, None):
            row = {"x": x}
            null = x is None
            self.assertIs(Less("x", 2).truth(row), None if null else x < 2)
            self.assertIs(Less(2, "x").truth(row), None if null else 2 < x)
            self.assertIs(AtMost("x", 2).truth(row), None if null else x <= 2)
            self.assertIs(AtMost(2, "x").truth(row), None if null else 2 <= x)
            self.assertIs(Same("x", 2).truth(row), None if null else x == 2)
            self.assertIs(Among("x", 3, 1).truth(row), None if null else x != 2)
            self.assertIs(Missing("x").truth(row), null)
            self.assertIs(Same("x", "x").truth(row), None if null else True)
            self.assertIs(Always().truth(row), True)
            self.assertIs(Never().truth({}), False)

    def test_three_truths(self):
        truths = {True: Always(), False: Never(), None: Less("x", 0)}
        row = {"x": None}
        for one, other in itertools.product(truths, repeat=2):
            both = False if False in (one, other) else None if None in (one, other) else True
            either = True if True in (one, other) else None if None in (one, other) else False
            self.assertIs((truths[one] & truths[other]).truth(row), both)
            self.assertIs((truths[one] | truths[other]).truth(row), either)
            self.assertIs((~truths[one]).truth(row), None if one is None else not one)
            self.assertIs(truths[one](row), one is True)

    def test_filters_of_many_parts(self):
        rng = random.Random(5)
        for _ in range(400):
            test = random_filter(rng, ["x", "y"], [0, 1, 2, 3], 6)
            for x, y in itertools.product((0, 1, 3, None), repeat=2):
                row = {"x": x, "y": y, "z": 7}
                truth = truth_by_words(str(test).split(" "), row)
                self.assertIs(test.truth(row), truth, str(test))
                self.assertIs(test(row=row), truth is True)

    def test_great_integers(self):
        self.assertIs(Less("x", GREAT).truth({"x": GREAT - 1}), True)
        self.assertIs(Same("x", "y").truth({"x": GREAT, "y": GREAT + 1}), False)

    def test_what_is_no_row(self):
        for test in (Less("x", 3), Always()):
            for value in odd_values():
                if value not in ({}, {"x": 1}):
                    self.refuses(BadRow("row"), test.truth, value)
                    self.refuses(BadRow("row"), test, value)
            for row in ({"x": True}, {"x": 1, "y": "z"}, {"x": 1, "and": 2}, {"x": 1, None: 2}, {"x": 1, "Y": None}):
                self.refuses(BadRow("row"), test.truth, row)
                self.refuses(BadRow("row"), test, row=row)

    def test_columns_that_are_lacking(self):
        test = Less("y", 3) & Missing("b") | Same("z", "z")
        for row, name in (({}, "b"), ({"z": 1}, "b"), ({"b": None}, "y"), ({"b": 1, "y": 2, "a": 3}, "z")):
            self.refuses(NoName(name), test.truth, row)
            self.refuses(NoName(name), test, row)
        self.assertIs(test.truth({"b": None, "y": 2, "z": None, "a": 5}), True)

    def test_rows_are_not_changed(self):
        row = {"x": 1, "y": None}
        (Less("x", 3) & Missing("y")).truth(row)
        self.assertEqual(row, {"x": 1, "y": None})

"""Tests of sums: the least and the greatest sum of a column over the matches of a block."""

import random

from headskip.errors import NoName
from headskip.filters import Always, AtMost, Less, Missing, Never, Same
from headskip.heads import Head
from headskip.lots import Lots
from headskip.sums import Sums, shows_sums, sums
from headskip.tolds import Blank, FullList, FullSpan, HoledList, HoledSpan, OpenSpan
from brute import all_contents, does_match, lots_of, matched, small_head
from helpers import Case, exactly, odd_values, random_filter

GREAT = 10 ** 29
THREE, TEST = Head(3, x=FullSpan(-2, 5)), AtMost(0, "x")


def some_cases(many, seed, rows=None):
    rng = random.Random(seed)
    for _ in range(many):
        names = "xyz"[:rng.choice((1, 1, 2, 2, 3))]
        spans = (((0, 1, 2), (-3, 0, 2), (-2, -1, 1), (1, 2, 3)), ((0, 1, 2), (-1, 0, 1)), ((0, 1), (-1, 0)))
        numbers = rng.choice(spans[len(names) - 1])
        yield small_head(rng, names, numbers, rows), random_filter(rng, list(names), [-1, 0, 1, 2], 3), rng.choice(names)


def total(head, test, column, lots):
    """The sum over the matches of Lots."""
    place = head.names.index(column)
    rows = [(row, times) for row, times in lots if does_match(head.names, test, None, row)]
    return sum(row[place] * times for row, times in rows if row[place] is not None)


class SumsOfBlocks(Case):
    def check(self, head, test, column):
        found = sums(head, test, column)
        self.assertIs(type(found), Sums)
        for lots, wanted in ((found.few, found.least), (found.much, found.greatest)):
            self.assertIs(head.fits(lots), True)
            self.assertEqual(total(head, test, column, lots), wanted)
            self.assertLessEqual(len(lots), len(head.wanted) + 2)
        self.assertIs(found.is_fixed, found.least == found.greatest)
        self.assertEqual(found, sums(column=column, test=test, head=head))
        return found

    def test_all_contents_of_small_heads(self):
        for head, test, column in some_cases(500, 61):
            found = self.check(head, test, column)
            totals = [sum(matched(head.names, test, rows, column)) for rows in all_contents(head)]
            self.assertTrue(exactly([found.least, found.greatest], [min(totals), max(totals)]), (str(head), str(test), column))

    def test_fixed_sums(self):
        for head, test, wanted in (
            (Head(2, x=FullSpan(3, 7)), Always(), 10), (Head(2, x=FullSpan(3, 7)), Less("x", 7), 3),
            (Head(9, x=FullSpan(4, 4)), Always(), 36), (Head(9, x=Blank()), Always(), 0), (THREE, Never(), 0),
            (Head(3, x=HoledSpan(-5, 2)), Always(), -3), (Head(5, x=FullList(1, 2, 3, 4, 5)), ~Same("x", 4), 11),
        ):
            found = self.check(head, test, "x")
            self.assertEqual((found.least, found.greatest, found.is_fixed), (wanted, wanted, True))

    def test_nulls_negative_values_no_match(self):
        for head, test, least, greatest in (
            (Head(3, x=HoledSpan(-5, 2)), ~Missing("x"), -3, -3), (Head(4, x=HoledSpan(-5, 2)), Always(), -8, -1),
            (Head(4, x=OpenSpan(-5, -2, False, False)), Always(), -20, 0), (Head(4, x=FullSpan(-5, -2)), Always(), -17, -11),
            (Head(4, x=FullSpan(-5, -2, False, False)), Less("x", -3), -20, 0), (Head(4, x=FullSpan(1, 9)), Less("x", 0), 0, 0),
            (Head(4, x=HoledSpan(3, 9)), Missing("x"), 0, 0), (Head(2, x=OpenSpan(3, 9)), Missing("x"), 0, 0),
        ):
            found = self.check(head, test, "x")
            self.assertEqual((found.least, found.greatest), (least, greatest), (str(head), str(test)))

    def test_values_that_go_farther_in_later_rows(self):
        head = Head(3, x=FullSpan(0, 2, False, False), y=FullSpan(-2, 2, False, False))
        for test in (Less(0, "x") | Less(0, "y"), Less(0, "x") | Less("y", 0), Same("x", 1) | Same("x", 0) & Same("y", 0)):
            found = self.check(head, test, "y")
            self.assertEqual((found.least, found.greatest), (-6, 6))

    def test_great_blocks(self):
        for head, test, column in some_cases(150, 62, 9):
            found = {}
            for rows in (9, 10, GREAT):
                block = Head.of(rows, {name: head[name] for name in head})
                found[rows] = self.check(block, test, column)
            for part in ("least", "greatest"):
                # With more rows than wants each row more adds the same, again and again.
                few, more, most = [getattr(found[rows], part) for rows in (9, 10, GREAT)]
                self.assertEqual(most, few + (more - few) * (GREAT - 9), (str(head), str(test)))
        found = self.check(Head(GREAT, x=FullSpan(-GREAT, GREAT)), Always(), "x")
        self.assertEqual(found.greatest, GREAT * (GREAT - 2))
        self.assertEqual(found.least, -found.greatest)

    def test_three_columns(self):
        head = Head(4, x=FullSpan(0, 9), y=HoledList(1, 2), z=FullSpan(-3, 3))
        found = self.check(head, Same("y", 1), "x")
        self.assertEqual((found.least, found.greatest), (0, 18))
        found = self.check(head, Less("z", "x"), "z")
        self.assertEqual((found.least, found.greatest), (-9, 6))
        found = self.check(head, Missing("y") | Same("y", 2) & Less("x", "z"), "z")
        self.assertEqual((found.least, found.greatest), (-6, 9))

    def test_missing_columns(self):
        head = Head(3, x=FullSpan(1, 7), y=FullSpan(0, 2))
        for call in (sums, lambda head, test, column: shows_sums(head, test, column, "paper")):
            self.refuses(NoName("a"), call, head, Less("z", "a"), "c")
            self.refuses(NoName("z"), call, head, Less("x", "z"), 5)
            for value in odd_values():
                if value not in ("x", "y"):
                    self.refuses(NoName(value), call, head, Less("x", "y"), value)


class ShowsSums(Case):
    def shown(self, least, greatest, few, much):
        return shows_sums(THREE, TEST, "x", Sums(least, greatest, few, much))

    def test_right_papers(self):
        for head, test, column in some_cases(150, 63):
            self.assertIs(shows_sums(head, test, column, sums(head, test, column)), True)

    def test_all_contents_as_papers(self):
        for head, test, column in some_cases(25, 64):
            found = sums(head, test, column)
            for rows in all_contents(head)[:30]:
                lots = lots_of(rows)
                one = sum(matched(head.names, test, rows, column))
                self.assertIs(shows_sums(head, test, column, Sums(found.least, found.greatest, lots, found.much)), one == found.least)
                self.assertIs(shows_sums(head, test, column, Sums(found.least, found.greatest, found.few, lots)), one == found.greatest)
                self.assertIs(shows_sums(head, test, column, Sums(one, one, lots, lots)), one == found.least == found.greatest)

    def test_bent_papers(self):
        few, much = Lots(((-2,), 2), ((5,), 1)), Lots(((-2,), 1), ((5,), 2))
        self.assertIs(self.shown(5, 10, few, much), True)
        self.assertIs(self.shown(5, 10, Lots(((-2,), 1), ((0,), 1), ((5,), 1)), much), True)
        self.assertIs(shows_sums(paper=Sums(5, 10, few, much), column="x", test=TEST, head=THREE), True)
        middle, short, wide = Lots(((-2,), 1), ((1,), 1), ((5,), 1)), Lots(((-2,), 1), ((5,), 1)), Lots(((-2, 0), 2), ((5, 0), 1))
        for least, greatest, one, other in (
            (6, 10, few, much), (4, 10, few, much), (5, 9, few, much), (5, 11, few, much), (6, 10, middle, much), (5, 6, few, middle),
            (5, 10, much, few), (10, 5, much, few), (5, 10, short, much), (5, 10, wide, much), (5, 10, few, few), (5, 10, much, much),
            (5, 10, Lots(((5,), 1)), much), (5, 10, few, Lots(((5,), 2))), (5, 10, Lots(((-3,), 2), ((5,), 1)), much), (None, 10, few, much),
        ):
            self.assertIs(self.shown(least, greatest, one, other), False, (least, greatest, str(one), str(other)))

    def test_other_kinds(self):
        head = Head(1, x=FullSpan(0, 1, False, False))
        zero, one = Lots(((0,), 1)), Lots(((1,), 1))
        self.assertIs(shows_sums(head, Always(), "x", Sums(0, 1, zero, one)), True)
        self.assertIs(shows_sums(head, Always(), "x", Sums(False, 1, zero, one)), False)
        self.assertIs(shows_sums(head, Always(), "x", Sums(0, True, zero, one)), False)

    def test_any_value(self):
        few, much = Lots(((-2,), 2), ((5,), 1)), Lots(((-2,), 1), ((5,), 2))
        for value in odd_values():
            self.assertIs(shows_sums(THREE, TEST, "x", value), False)
            for bent in ((value, 10, few, much), (5, value, few, much), (5, 10, value, much), (5, 10, few, value)):
                self.assertIs(self.shown(*bent), False, bent)

    def test_papers_keep_and_compare_any_values(self):
        for value in odd_values():
            paper = Sums(value, [value], None, 7)
            self.assertTrue(paper)
            self.assertTrue(exactly([paper.least, paper.greatest, paper.few, paper.much], [value, [value], None, 7]))
            self.assertEqual(paper, Sums(much=7, few=None, greatest=[value], least=value))
            self.assertIs(Sums(value, value, 1, 2).is_fixed, True)
            self.assertIs(paper.is_fixed, False)
            self.assertIs(Sums(1, 2, 3, 4) == value, False)
        self.assertEqual(Sums(1, 0, 3, 4), Sums(True, False, 3, 4))
        for other in (Sums(0, 2, 3, 4), Sums(1, 0, 3, 4), Sums(1, 2, 0, 4), Sums(1, 2, 3, 0)):
            self.assertNotEqual(Sums(1, 2, 3, 4), other)

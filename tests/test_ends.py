"""Tests of ends: the values of a column that are possible, sure and open among the matches of a block."""

import random

from headskip.counts import Counts, counts
from headskip.ends import levels, lowest, open_value, possible, sure, surely_below
from headskip.errors import BadQuestion, NoName
from headskip.filters import Always, Less, Missing, Never, Same
from headskip.heads import Head
from headskip.spots import Limit
from headskip.tolds import Blank, FullList, FullSpan, HoledList, HoledSpan, OpenList, OpenSpan
from brute import all_contents, matched, small_head
from helpers import Case, exactly, odd_values, random_filter

GREAT = 10 ** 29
CALLS = (possible, sure, lowest, surely_below, levels, lambda head, test, column: open_value(head, test, column, 1))


def spread(found):
    return [number for low, high in found for number in range(low, high + 1)]


def some_cases(many, seed, spans=((0, 1, 2), (0, 2, 5), (-1, 0, 3))):
    rng = random.Random(seed)
    for _ in range(many):
        names = "xyz"[:rng.choice((1, 1, 2, 2, 3))]
        head = small_head(rng, names, (rng.choice(spans), (0, 1, 2), (0, 1))[len(names) - 1])
        yield head, random_filter(rng, list(names), [0, 1, 2, 3], 3), rng.choice(names)


def values_of(head, test, column):
    """For all contents the integers of the column among the matches, descending."""
    return [matched(head.names, test, rows, column) for rows in all_contents(head)]


class Ends(Case):
    def test_all_contents_of_small_heads(self):
        for head, test, column in some_cases(400, 51):
            values = values_of(head, test, column)
            told = [value for some in values for value in some]
            wanted = [max(told, default=None), min(some[0] for some in values) if all(values) else None,
                      min(told, default=None), max(some[-1] for some in values) if all(values) else None]
            found = [possible(head, test, column), sure(head, test, column),
                     lowest(head, test, column), surely_below(head, test, column)]
            self.assertTrue(exactly(found, wanted), (str(head), str(test), column, found, wanted))

    def test_ends_that_meet_in_one_row(self):
        head = Head(2, x=FullSpan(0, 9), y=FullSpan(0, 1))
        self.assertEqual([possible(head, Same("y", 0), "x"), sure(head, Same("y", 0), "x")], [9, 0])
        self.assertEqual([possible(head, Same("x", 0), "y"), lowest(head, Same("x", 0), "y")], [1, 0])
        self.assertEqual([surely_below(head, Same("y", 0), "x"), lowest(head, Same("y", 0), "x")], [9, 0])

    def test_nulls(self):
        head = Head(3, x=HoledSpan(2, 6), y=OpenSpan(0, 9))
        self.assertEqual([possible(head, Missing("x"), "x"), sure(head, Missing("x"), "x"), levels(head, Missing("x"), "x")],
                         [None, None, ()])
        self.assertEqual([possible(head, Missing("x"), "y"), sure(head, Missing("x"), "y")], [9, None])
        self.assertEqual([lowest(head, Always(), "x"), surely_below(head, Always(), "x")], [2, 2])
        self.assertEqual([possible(Head(4, x=Blank()), Always(), "x"), open_value(Head(4, x=Blank()), Always(), "x", 4)],
                         [None, None])
        self.assertEqual(sure(Head(2, x=OpenSpan(3, 5, False, False)), Always(), "x"), None)

    def test_a_column_that_the_filter_does_not_name(self):
        head = Head(3, x=FullSpan(4, 8), y=FullSpan(0, 1))
        for test, wanted in ((Same("y", 1), [8, 4, 4, 8]), (Less("y", 2), [8, 8, 4, 4]), (Less("y", 0), [None] * 4)):
            self.assertEqual([possible(head, test, "x"), sure(head, test, "x"), lowest(head, test, "x"),
                              surely_below(head, test, "x")], wanted)

    def test_values_that_go_farther_in_later_rows(self):
        head = Head(3, x=FullSpan(0, 2, False, False), y=FullSpan(-2, 2, False, False))
        for test, ends in ((Less(0, "x") | Less(0, "y"), [2, None, -2, None]), (Less(0, "x") | Less("y", 0), [2, None, -2, None]),
                           (Same("x", 1) | Same("x", 0) & Same("y", 0), [2, None, -2, None]), (Less(1, "x") & Less("y", 1), [0, None, -2, None])):
            self.assertEqual([call(head, test, "y") for call in CALLS[:4]], ends)

    def test_no_row_can_match(self):
        for head in (Head(3, x=FullSpan(1, 7)), Head(GREAT, x=OpenList(1, 2))):
            for test in (Never(), Less("x", 1), Less("x", "x")):
                self.assertEqual([call(head, test, "x") for call in CALLS], [None, None, None, None, (), None])

    def test_great_blocks(self):
        head = Head(GREAT, x=FullSpan(-GREAT, GREAT), y=FullList(0, 1))
        self.assertEqual([call(head, Same("y", 0), "x") for call in CALLS[:4]], [GREAT, -GREAT, -GREAT, GREAT])
        self.assertEqual([call(head, Less("x", 0), "x") for call in CALLS[:4]], [-1, -GREAT, -GREAT, -GREAT])
        self.assertEqual(open_value(head, Always(), "x", 1), None)
        self.assertEqual(open_value(head, Always(), "x", 2), GREAT)
        self.assertEqual(open_value(head, Always(), "x", GREAT), GREAT)
        self.assertEqual([(value, many.ranges) for value, many in levels(head, Always(), "x")],
                         [(GREAT, ((1, GREAT - 1),)), (-GREAT, ((GREAT, GREAT),))])

    def test_values_moved_far_and_negated(self):
        for head, test, column in some_cases(120, 52):
            far = Head.of(head.rows, {name: head[name] + GREAT for name in head})
            turned = Head.of(head.rows, {name: -head[name] for name in head})
            moved = [None if call(head, test, column) is None else call(head, test, column) + GREAT for call in CALLS[:4]]
            self.assertEqual([call(far, test.shifted(GREAT), column) for call in CALLS[:4]], moved)
            self.assertEqual(levels(far, test.shifted(GREAT), column),
                             tuple((value + GREAT, many) for value, many in levels(head, test, column)))
            for one, other in ((possible, lowest), (lowest, possible), (sure, surely_below), (surely_below, sure)):
                mirrored = other(turned, test.mirrored(), column)
                self.assertEqual(one(head, test, column), None if mirrored is None else -mirrored)


class Levels(Case):
    def test_all_contents_of_small_heads(self):
        for head, test, column in some_cases(250, 53):
            values = values_of(head, test, column)
            wanted, last = [], [0]
            for v in range(8, -4, -1):
                now = sorted({sum(value >= v for value in some) for some in values})
                if now != last:
                    wanted.append((v, now))
                last = now
            found = levels(head, test, column)
            self.assertTrue(all(type(pair) is tuple and type(pair[1]) is Counts for pair in found))
            self.assertTrue(exactly([(v, spread(many)) for v, many in found], wanted), (str(head), str(test), column))

    def test_the_counts_with_the_limit_at_each_value(self):
        for head, test, column in some_cases(120, 54, ((0, 3, 9), (-4, 0, 2, 6))):
            found = levels(head, test, column)
            self.assertIs(type(found), tuple)
            for v in range(-6, 12):
                least = [many for value, many in found if value >= v]
                self.assertEqual(least[-1] if least else counts(head, Never()), counts(head, test, Limit(column, v)))
            self.assertEqual(found[-1][1] if found else counts(head, Never()), counts(head, test, Limit(column)))
            for value, many in found:
                self.assertNotEqual(many, counts(head, test, Limit(column, value + 1)))

    def test_levels_of_lists_and_of_three_columns(self):
        head = Head(4, x=HoledList(1, 3, 5), y=FullSpan(2, 4), z=FullSpan(0, 1, False, False))
        found = levels(head=head, test=Less("x", "y") & Same("z", 1), column="y")
        self.assertEqual([(value, many.ranges) for value, many in found], [(4, ((0, 2),))])
        self.assertEqual([value for value, _ in levels(head, Always(), "x")], [5, 3, 1])


class OpenValues(Case):
    def test_all_contents_of_small_heads(self):
        for head, test, column in some_cases(250, 55):
            values = values_of(head, test, column)
            for many in (1, 2, 3, 4, GREAT):
                wanted = [v for v in range(-4, 8) if len({min(many, sum(value >= v for value in some)) for some in values}) > 1]
                self.assertEqual(open_value(head, test, column, many), max(wanted, default=None), (str(head), str(test)))

    def test_keywords(self):
        self.assertEqual(open_value(many=2, column="x", test=Always(), head=Head(4, x=FullSpan(0, 8))), 8)
        self.assertEqual(possible(column="x", test=Always(), head=Head(4, x=FullSpan(0, 8))), 8)


class Errors(Case):
    def test_missing_columns(self):
        head = Head(3, x=FullSpan(1, 7), y=FullSpan(0, 2))
        for call in (*CALLS, lambda head, test, column: open_value(head, test, column, "many")):
            self.refuses(NoName("a"), call, head, Less("z", "a") | Less("b", 3), "c")
            self.refuses(NoName("z"), call, head, Less("x", "z"), 5)
            for value in odd_values():
                if value not in ("x", "y"):
                    self.refuses(NoName(value), call, head, Less("x", "y"), value)

    def test_many(self):
        head = Head(3, x=FullSpan(1, 7))
        for value in odd_values():
            if type(value) is not int or value < 1:
                self.refuses(BadQuestion("many"), open_value, head, Always(), "x", value)
                self.refuses(NoName("y"), open_value, head, Always(), "y", value)
                self.refuses(NoName("y"), open_value, head, Less("y", 2), "z", value)
        self.refuses(BadQuestion("many"), open_value, head, Never(), "x", 0)

"""Tests of kinds: the greatest sets of wants that matching rows and others can meet."""

import itertools
import random

from headskip.errors import BadRow, NoName
from headskip.filters import Always, AtMost, Less, Missing, Never, Same
from headskip.heads import Head
from headskip.kinds import Kinds, kind_row, kinds, shows_kinds
from headskip.spots import Limit, deciding_rows
from headskip.tolds import Blank, FullList, FullSpan, HoledList, HoledSpan, OpenSpan
from brute import matches
from helpers import Case, exactly, odd_values, random_filter
from test_spots import random_head

SQUARE = Head(2, x=FullSpan(0, 1), y=FullSpan(0, 1))
SAME = Same("x", "y")


def met_by(head, row):
    named = dict(zip(head.names, row))
    return frozenset(k for k, (name, want) in enumerate(head.wanted) if named[name] == want)


def kinds_of_all_rows(head, test, limit, numbers):
    """The matching and the other greatest sets, over all rows that the head allows."""
    columns = [[value for value in (*numbers, None) if value in head[name]] for name in head]
    found = {True: set(), False: set()}
    for row in itertools.product(*columns):
        found[matches(test, limit, dict(zip(head.names, row)))].add(met_by(head, row))
    greatest = []
    for sets in (found[True], found[False]):
        top = [some for some in sets if not any(some < other for other in sets)]
        greatest.append(tuple(sorted(tuple(sorted(some)) for some in top)))
    return greatest


def some_cases(many, seed):
    rng = random.Random(seed)
    for _ in range(many):
        names = "xyz"[:rng.randint(1, 3)]
        head = random_head(rng, names, (0, 1, 4, 7))
        test = random_filter(rng, list(names), [0, 2, 4, 8], 4)
        limits = (None, None, Limit("x", 2), Limit("x", None, 4), Limit("x", 3, 3), Limit("x", 5, 1), Limit("x"))
        yield head, test, rng.choice(limits)


class KindsOfBlocks(Case):
    def test_examples(self):
        block, middle = Head(2, x=FullSpan(3, 7)), AtMost(4, "x") & AtMost("x", 6)
        x_wants = (("x", 3), ("x", 7))
        for head, test, limit, wants, matching, others in (
            (block, middle, None, x_wants, ((),), ((0,), (1,))), (block, Always(), None, x_wants, ((0,), (1,)), ()),
            (block, Never(), None, x_wants, (), ((0,), (1,))), (block, Always(), Limit("x", 4), x_wants, ((1,),), ((0,),)),
            (block, Always(), Limit("x", 8), x_wants, (), ((0,), (1,))),
            (block, Always(), Limit("x", 6, 4), x_wants, (), ((0,), (1,))),
            (block, Less("x", 5), Limit("x", 4, 9), x_wants, ((),), ((0,), (1,))),
            (Head(1, x=Blank()), Missing("x"), None, (("x", None),), ((0,),), ()),
            (Head(1, x=Blank()), Missing("x"), Limit("x"), (("x", None),), (), ((0,),)),
            (Head(9, x=OpenSpan(0, 5, False, False)), Less("x", 3), None, (), ((),), ((),)),
            (Head(9, x=HoledList(4, 6)), Less("x", 5), None, (("x", 4), ("x", 6), ("x", None)), ((0,),), ((1,), (2,))),
        ):
            found = kinds(head, test, limit)
            self.assertIs(type(found), Kinds)
            self.assertTrue(exactly((found.wants, found.matching, found.others), (wants, matching, others)))

    def test_two_columns(self):
        found = kinds(SQUARE, SAME)
        self.assertEqual((found.matching, found.others), (((0, 2), (1, 3)), ((0, 3), (1, 2))))
        found = kinds(head=SQUARE, test=SAME, limit=Limit("y", 1))
        self.assertEqual((found.matching, found.others), (((1, 3),), ((0, 2), (0, 3), (1, 2))))

    def test_all_rows_of_small_heads(self):
        for head, test, limit in some_cases(250, 21):
            found = kinds(head, test, limit)
            wanted = kinds_of_all_rows(head, test, limit, range(-1, 11))
            self.assertEqual([found.matching, found.others], wanted, (str(head), str(test)))
            self.assertEqual(found.wants, head.wanted)

    def test_great_heads(self):
        head = Head(10 ** 29, x=HoledSpan(-10 ** 29, 10 ** 29), y=FullList(*range(4)), z=OpenSpan(0, 10 ** 29))
        found = kinds(head, Less("x", "z") & Less("y", 2))
        self.assertEqual(len(found.wants), 9)
        self.assertEqual(found.matching, ((0, 3, 7), (0, 3, 8), (0, 4, 7), (0, 4, 8)))

    def test_missing_columns(self):
        for call in (kinds, lambda head, test, limit: kind_row(head, test, 3, 3, limit),
                     lambda head, test, limit: shows_kinds(head, test, 3, limit)):
            self.refuses(NoName("a"), call, SQUARE, Less("z", "a"), Limit("b"))
            self.refuses(NoName("z"), call, SQUARE, Less("x", "z"), Limit("b"))
            self.refuses(NoName("b"), call, SQUARE, SAME, Limit("b"))


class KindRows(Case):
    def test_kind_row(self):
        self.assertEqual(kind_row(SQUARE, SAME, False, (1,)), (1, 0))
        self.assertEqual(kind_row(SQUARE, SAME, True, (3, 1, 3)), (1, 1))
        self.assertEqual(kind_row(SQUARE, SAME, True, ()), (0, 0))
        self.assertIsNone(kind_row(SQUARE, SAME, True, (0, 3)))
        self.assertIsNone(kind_row(SQUARE, Always(), False, ()))
        self.assertEqual(kind_row(SQUARE, SAME, True, (), Limit("x", 1)), (1, 1))
        self.assertEqual(kind_row(head=SQUARE, test=SAME, matches=False, some=(0, 2), limit=Limit("x", 1)), (0, 0))

    def test_the_first_of_the_deciding_rows(self):
        rng = random.Random(22)
        for head, test, limit in some_cases(150, 23):
            some = tuple(rng.randrange(len(head.wanted)) for _ in range(rng.randrange(3)) if head.wanted)
            for wanted in (True, False):
                rows = [row for row in deciding_rows(head, test, limit) if set(some) <= met_by(head, row)
                        and matches(test, limit, dict(zip(head.names, row))) is wanted]
                self.assertEqual(kind_row(head, test, wanted, some, limit), rows[0] if rows else None)

    def test_refusals(self):
        for value in odd_values():
            if not isinstance(value, tuple) or not all(type(k) is int and 0 <= k < 4 for k in value):
                self.refuses(BadRow("some"), kind_row, SQUARE, SAME, value, value)
            if type(value) is not int or not 0 <= value < 4:
                self.refuses(BadRow("some"), kind_row, SQUARE, SAME, True, (0, 3, value))
            if not isinstance(value, bool):
                self.refuses(BadRow("matches"), kind_row, SQUARE, SAME, value, (1, 3))
        self.refuses(BadRow("some"), kind_row, SQUARE, SAME, True, [0])
        self.refuses(BadRow("some"), kind_row, SQUARE, SAME, True, (4,))
        self.refuses(BadRow("some"), kind_row, SQUARE, SAME, True, (-1,))


class ShowsKinds(Case):
    def shown(self, wants, matching, others, test=SAME, head=SQUARE):
        return shows_kinds(head, test, Kinds(wants, matching, others))

    def test_right_papers(self):
        for head, test, limit in some_cases(80, 24):
            self.assertIs(shows_kinds(head, test, kinds(head, test, limit), limit), True)
        self.assertIs(shows_kinds(limit=Limit("x", 1), paper=kinds(SQUARE, SAME, Limit("x", 1)), test=SAME, head=SQUARE), True)
        self.assertIs(shows_kinds(SQUARE, SAME, kinds(SQUARE, SAME, Limit("x", 1))), False)

    def test_bent_papers(self):
        wants, matching, others = SQUARE.wanted, ((0, 2), (1, 3)), ((0, 3), (1, 2))
        self.assertIs(self.shown(wants, matching, others), True)
        for bent in ((), ((0, 2),), ((0, 2), (1, 3), (0,)), ((), (0, 2), (1, 3)), ((0, 2), (0, 2), (1, 3)),
                     ((1, 3), (0, 2)), ((2, 0), (1, 3)), ((0, 2), (1, 3, 3)), ((0, 2), (True, 3)), ((False, 2), (1, 3)),
                     [(0, 2), (1, 3)], ([0, 2], (1, 3)), ((0, 2), (1, "3")), ((0, 2), (1, None)), ((0, 2), None), None):
            self.assertIs(self.shown(wants, bent, others), False, bent)
        for bent in ((), others[:1], others[::-1], matching, [*others], ((0, 3), (True, 2))):
            self.assertIs(self.shown(wants, matching, bent), False, bent)
        for bent in ((), wants[:3], wants[::-1], [*wants], (["x", 0], *wants[1:]), (("x", False), *wants[1:]),
                     (("x", 0, 0), *wants[1:]), (("y", 0), *wants[1:]), (("x", "0"), *wants[1:])):
            self.assertIs(self.shown(bent, matching, others), False, bent)
        self.assertIs(self.shown(SQUARE.wanted, (), (), Always()), False)

    def test_any_value(self):
        block = Head(3, x=HoledSpan(0, 2))
        right = kinds(block, Missing("x"))
        for value in odd_values():
            self.assertIs(shows_kinds(SQUARE, SAME, value), False)
            self.assertIs(shows_kinds(block, Missing("x"), Kinds(value, right.matching, right.others)), False)
            self.assertIs(shows_kinds(block, Missing("x"), Kinds(right.wants, value, right.others)), False)
            self.assertIs(shows_kinds(block, Missing("x"), Kinds(right.wants, right.matching, value)), False)
        none = Head(3, x=FullSpan(0, 2, False, False))
        for value in odd_values():
            self.assertIs(shows_kinds(none, Always(), Kinds((), ((),), value)), exactly(value, ()))

    def test_papers_keep_and_compare_any_values(self):
        for value in odd_values():
            paper = Kinds(value, [value], None)
            self.assertTrue(paper)
            self.assertTrue(exactly(paper.wants, value))
            self.assertEqual(paper, Kinds(wants=value, matching=[value], others=None))
            self.assertIs(Kinds("z", 1, 2) == value, False)
        self.assertEqual(Kinds(1, (0,), None), Kinds(True, (False,), None))
        for other in (Kinds(2, 2, 3), Kinds(1, 1, 3), Kinds(1, 2, 2)):
            self.assertNotEqual(Kinds(1, 2, 3), other)

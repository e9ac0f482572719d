"""Tests of the normal forms of column heads, and of all that is told for a number of rows.

All rows of few values over a few integers are gone through one by one.
"""

from headskip.errors import BadTold
from headskip.tolds import Blank, FullList, FullSpan, HoledList, HoledSpan, OpenList, OpenSpan
from helpers import Case, contents_over, odd_values, tolds_over

GREAT = 10 ** 29
FEW = (0, 1, 2)
MORE = (0, 1, 2, 3)


def possible_and_sure(contents):
    """The values that some contents have, and those that all contents have."""
    possible = {value for values in contents for value in values}
    return possible, {value for value in possible if all(value in values for values in contents)}


def normal_by_the_document(possible, sure):
    """The normal form of a column head with these values [5]."""
    numbers = sorted(possible - {None})
    if not numbers:
        return Blank()
    kind = 1 if None in sure else 2 if None in possible else 0
    if set(numbers) == sure - {None} and len(numbers) <= 9:
        return (FullList, HoledList, OpenList)[kind](*numbers)
    low, high = numbers[0], numbers[-1]
    return (FullSpan, HoledSpan, OpenSpan)[kind](low, high, low in sure, high in sure)


def fitting(told, numbers, rows):
    """The set of the contents of so many rows that fit."""
    return frozenset(values for values in contents_over((*numbers, None), rows) if told.fits(values))


def ordered(values):
    return tuple(sorted(values, key=lambda value: (value is None, value)))


def tolds_with_contents(numbers, rows):
    """The pairs of a told and its contents, for all tolds that some contents of so many rows fit."""
    return [(told, fitting(told, numbers, rows)) for told in tolds_over(numbers) if len(told.wants) <= rows]


class Normal(Case):
    def test_all_small_tolds(self):
        for rows in (1, 2, 3, 4, 5):
            forms = {}
            for told, contents in tolds_with_contents(MORE, rows):
                self.assertTrue(contents)
                normal = told.normal(rows)
                self.assertEqual(normal, normal_by_the_document(*possible_and_sure(contents)), (str(told), rows))
                self.assertEqual(fitting(normal, MORE, rows), contents)
                self.assertEqual(normal.normal(rows), normal)
                self.assertEqual(forms.setdefault(str(normal), contents), contents)
            self.assertEqual(len(set(forms.values())), len(forms))

    def test_great_numbers(self):
        self.assertEqual(FullSpan(-GREAT, GREAT).normal(2), FullList(-GREAT, GREAT))
        self.assertEqual(FullSpan(-GREAT, GREAT).normal(GREAT), FullSpan(-GREAT, GREAT))
        self.assertEqual(OpenSpan(GREAT, GREAT + 1).normal(GREAT), OpenList(GREAT, GREAT + 1))
        self.assertEqual(OpenList(*range(9)).normal(9), FullList(*range(9)))
        self.assertEqual(OpenList(*range(9)).normal(10), OpenList(*range(9)))
        self.assertEqual(HoledList(*range(9)).normal(GREAT), HoledList(*range(9)))

    def test_refusals(self):
        for told, least in ((OpenSpan(3, 4, False, False), 1), (HoledSpan(3, 4), 3), (FullList(1, 2, 5), 3)):
            for value in (*odd_values(), least - 1, -GREAT):
                if type(value) is not int or value < least:
                    self.refuses(BadTold("rows"), told.normal, value)
            told.normal(rows=least)


class TwoTolds(Case):
    def test_is_in_for_all_small_tolds(self):
        for rows in (1, 2, 3, 4):
            known = tolds_with_contents(FEW, rows)
            for one, first in known:
                for other, second in known:
                    self.assertIs(one.is_in(other, rows), first <= second, (str(one), str(other), rows))

    def test_both_for_all_small_tolds(self):
        for rows in (1, 2, 3, 4):
            known = tolds_with_contents(FEW, rows)
            for one, first in known:
                for other, second in known:
                    self.check_both(one.both(other, rows), first & second, rows)

    def check_both(self, found, contents, rows):
        if not contents:
            self.assertIsNone(found)
            return
        self.assertEqual(fitting(found, FEW, rows), contents)
        self.assertEqual(found, found.normal(rows))

    def test_merged_for_all_small_tolds(self):
        for rows, more in ((1, 1), (1, 2), (2, 1), (2, 2), (3, 1)):
            behind = tolds_with_contents(FEW, more)
            normals = [(told, found) for told, found in tolds_with_contents(FEW, rows + more)
                       if told.normal(rows + more) == told]
            for one, first in tolds_with_contents(FEW, rows):
                for other, second in behind:
                    together = {ordered(a + b) for a in first for b in second}
                    self.check_merged(one.merged(rows, other, more), together, normals)

    def check_merged(self, found, together, normals):
        contents = dict((str(told), some) for told, some in normals)[str(found)]
        self.assertTrue(together <= contents)
        for _, some in normals:
            if together <= some:
                self.assertTrue(contents <= some)

    def test_merged_lists_of_more_than_nine(self):
        one, other = FullList(*range(0, 16, 2)), OpenList(3, 5, 18)
        self.assertEqual(str(one.merged(8, other, 4)), "0 to 18 open")
        self.assertEqual(str(one.merged(8, other, 3)), "0 to 18")
        self.assertEqual(str(one.merged(8, FullList(2, 3), 4)), "list 0 2 3 4 6 8 10 12 14")
        self.assertEqual(str(FullSpan(1, 20, True, False).merged(8, FullSpan(0, 30, False, True), 5)), "~0 to 30")

    def test_great_numbers_of_rows(self):
        wide = OpenSpan(-GREAT, GREAT)
        self.assertIs(FullSpan(-GREAT, GREAT).is_in(wide, GREAT), True)
        self.assertIs(wide.is_in(FullSpan(-GREAT, GREAT), GREAT), False)
        self.assertIs(wide.is_in(FullSpan(-GREAT, GREAT), 2), True)
        self.assertEqual(wide.both(FullSpan(-GREAT, GREAT + 1, False, False), GREAT), FullSpan(-GREAT, GREAT))
        self.assertEqual(wide.merged(GREAT, Blank(), GREAT), HoledSpan(-GREAT, GREAT))
        self.assertEqual(FullList(3).merged(GREAT, FullList(3), 10 * GREAT), FullList(3))


class Refusals(Case):
    def setUp(self):
        self.one, self.other = FullSpan(3, 7), HoledSpan(4, 6)

    def test_other_comes_first(self):
        for value in odd_values():
            if not isinstance(value, (FullSpan, HoledList, Blank)):
                self.refuses(BadTold("other"), self.one.is_in, value, "rows")
                self.refuses(BadTold("other"), self.one.both, value, 0)
                self.refuses(BadTold("other"), self.one.merged, 0, value, 0)

    def test_then_the_rows(self):
        for value in odd_values():
            if type(value) is not int or value < 2:
                self.refuses(BadTold("rows"), self.one.is_in, self.other, value)
                self.refuses(BadTold("rows"), self.one.both, other=self.other, rows=value)
                self.refuses(BadTold("rows"), self.one.merged, rows=value, other=self.other, more=0)
        self.refuses(BadTold("rows"), self.one.is_in, self.other, 2)
        self.refuses(BadTold("rows"), self.one.both, self.other, 2)
        self.refuses(BadTold("rows"), self.other.is_in, self.one, 2)

    def test_then_more(self):
        for value in odd_values():
            if type(value) is not int or value < 3:
                self.refuses(BadTold("more"), self.one.merged, 2, self.other, value)
        self.refuses(BadTold("more"), self.one.merged, 2, self.other, 2)
        self.assertEqual(self.one.merged(2, self.other, 3), HoledList(3, 4, 6, 7))
        self.assertEqual(self.one.merged(2, self.other, 4), HoledSpan(3, 7))

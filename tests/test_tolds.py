"""Tests of column heads: making them, what they let, moving, gathering."""

from headskip.errors import BadTold, BadValue, TooMany
from headskip.tolds import (
    Blank, Full, FullList, FullSpan, Holed, HoledList, HoledSpan, Listed, Open, OpenList, OpenSpan, Span, Told,
)
from helpers import LISTS, SPANS, Case, exactly, odd_values, tolds_over

GREAT = 10 ** 29


def no_integers():
    return [value for value in odd_values() if not isinstance(value, int) or isinstance(value, bool)]


def no_bools():
    return [value for value in odd_values() if not isinstance(value, bool)]


class Classes(Case):
    def test_bases(self):
        bases = {
            Span: (Told,), Listed: (Told,), Full: (Told,), Holed: (Told,), Open: (Told,), Blank: (Told,),
            FullSpan: (Span, Full), HoledSpan: (Span, Holed), OpenSpan: (Span, Open),
            FullList: (Listed, Full), HoledList: (Listed, Holed), OpenList: (Listed, Open),
        }
        for made, wanted in bases.items():
            self.assertEqual(made.__bases__, wanted)

    def test_nulls(self):
        for full, holed, kept in (SPANS, LISTS):
            self.assertEqual((full.NULLS, holed.NULLS, kept.NULLS), ("full", "holed", "open"))
        self.assertEqual(Blank.NULLS, "blank")
        self.assertEqual((Full.NULLS, Holed.NULLS, Open.NULLS), ("full", "holed", "open"))

    def test_methods_stand_in_the_class_itself(self):
        for name in ("fits", "normal", "is_in", "both", "merged", "span_of", "list_of", "read", "__contains__",
                     "__add__", "__neg__", "__eq__", "__str__"):
            self.assertIn(name, vars(Told))
        for made in (*SPANS, *LISTS, Blank):
            self.assertIn("__init__", vars(made))
            self.assertEqual(made.__module__, "headskip.tolds")


class Spans(Case):
    def test_attributes_and_wants(self):
        for low_reached in (True, False):
            for high_reached in (True, False):
                wants = (3,) * low_reached + (7,) * high_reached
                for span, null in zip(SPANS, ((), (None,), ())):
                    told = span(3, 7, low_reached, high_reached)
                    found = (told.low, told.high, told.low_reached, told.high_reached, told.wants)
                    self.assertTrue(exactly(found, (3, 7, low_reached, high_reached, wants + null)))

    def test_ends_are_reached_if_nothing_else_is_told(self):
        self.assertEqual(FullSpan(3, 7), FullSpan(3, 7, True, True))
        self.assertEqual(OpenSpan(high=7, low=3, high_reached=False), OpenSpan(3, 7, True, False))

    def test_equal_ends_are_both_reached_if_one_is(self):
        for span in SPANS:
            for ends in ((True, True), (True, False), (False, True)):
                told = span(5, 5, *ends)
                self.assertTrue(exactly((told.low_reached, told.high_reached), (True, True)))
                self.assertEqual(told.wants[:1], (5,))
            told = span(5, 5, False, False)
            self.assertTrue(exactly((told.low_reached, told.high_reached), (False, False)))

    def test_thirty_digits(self):
        told = HoledSpan(-GREAT, GREAT)
        self.assertEqual(told.wants, (-GREAT, GREAT, None))
        self.assertIn(GREAT - 1, told)
        self.assertNotIn(GREAT + 1, told)

    def test_refusals(self):
        for span in SPANS:
            for value in no_integers():
                self.refuses(BadTold("low"), span, value, "high", 3, 4)
                self.refuses(BadTold("high"), span, 10 ** 60, value, 3, 4)
            for value in no_bools():
                self.refuses(BadTold("order"), span, 3, 2, value, 4)
                self.refuses(BadTold("low_reached"), span, 3, 4, value, 4)
                self.refuses(BadTold("high_reached"), span, 3, 4, False, value)
                self.refuses(BadTold("low_reached"), span, 3, 3, low_reached=value)


class Lists(Case):
    def test_attributes_and_wants(self):
        for made, null in zip(LISTS, ((), (None,), ())):
            told = made(7, -3, GREAT, 0)
            wanted = (-3, 0, 7, GREAT)
            self.assertTrue(exactly((told.low, told.high, told.listed, told.wants), (-3, GREAT, wanted, wanted + null)))
            self.assertEqual(made(5).wants, (5,) + null)
            self.assertEqual(made(*range(9)).listed, tuple(range(9)))

    def test_refusals(self):
        for made in LISTS:
            for value in no_integers():
                self.refuses(BadTold(0), made, value, 1, 1)
                self.refuses(BadTold(2), made, 1, 1, value, "y")
                self.refuses(BadTold(11), made, *range(11), value)
            self.refuses(BadTold("values"), made)
            self.refuses(BadTold("values"), made, 1, 2, 1)
            self.refuses(BadTold("values"), made, *range(12), 3)
            self.refuses(TooMany("values", 9), made, *range(10))

    def test_blank(self):
        told = Blank()
        self.assertEqual((told.low, told.high, told.wants), (None, None, (None,)))


class Lets(Case):
    def test_in(self):
        for span, null in zip(SPANS, (False, True, True)):
            told = span(3, 5, False, True)
            self.assertEqual([value for value in range(9) if value in told], [3, 4, 5])
            self.assertIs(None in told, null)
        for made, null in zip(LISTS, (False, True, True)):
            self.assertEqual([value for value in range(9) if value in made(5, 2)], [2, 5])
            self.assertIs(None in made(5, 2), null)
        self.assertIs(None in Blank(), True)
        self.assertIs(3 in Blank(), False)

    def test_in_for_other_values(self):
        for told, numbers in ((OpenSpan(-9, 9), (0, 1, -1, 7)), (OpenList(0, 1, 7), (0, 1, 7)), (Blank(), ())):
            for value in odd_values():
                is_let = value is None or (type(value) is int and value in numbers)
                self.assertIs(value in told, is_let, value)

    def test_fits(self):
        self.assertIs(FullSpan(3, 7).fits([7, 3]), True)
        self.assertIs(FullSpan(3, 7).fits((3, 5, 7, 7)), True)
        self.assertIs(FullSpan(3, 7).fits((3, 5)), False)
        self.assertIs(FullSpan(3, 7, True, False).fits((3, 5)), True)
        self.assertIs(FullSpan(3, 7).fits((3, 7, 8)), False)
        self.assertIs(FullSpan(3, 7).fits((3, 7, None)), False)
        self.assertIs(HoledSpan(3, 7).fits((3, 7)), False)
        self.assertIs(OpenSpan(3, 7).fits((3, 7, None)), True)
        self.assertIs(HoledList(3, 7).fits((3, 7, None)), True)
        self.assertIs(FullList(3, 7).fits((3, 5, 7)), False)
        self.assertIs(Blank().fits([None, None]), True)
        self.assertIs(Blank().fits([None, 3]), False)

    def test_fits_for_other_values(self):
        for told in (OpenSpan(0, 9, False, False), OpenList(1), Blank()):
            for value in odd_values():
                wanted = isinstance(value, (list, tuple)) and len(value) > 0
                wanted = wanted and all(part is None or type(part) is int for part in value)
                wanted = wanted and all(part in told for part in value) and all(want in value for want in told.wants)
                self.assertIs(told.fits(value), wanted, value)
        self.assertIs(OpenSpan(0, 1, False, False).fits([True]), False)


class Moves(Case):
    def test_plus(self):
        for told in tolds_over((-1, 0, 2)):
            moved = told + GREAT
            self.assertIs(type(moved), type(told))
            self.assertEqual(moved + -GREAT, told)
            for value in (-1, 0, 1, 2, None):
                away = None if value is None else value + GREAT
                self.assertEqual(away in moved, value in told)
                self.assertEqual(away in moved.wants, value in told.wants)

    def test_plus_of_other_values(self):
        for told in (FullSpan(1, 2), HoledList(3), Blank()):
            for value in no_integers():
                self.refuses(BadValue(value), lambda: told + value)

    def test_minus(self):
        for told in tolds_over((-1, 0, 2)):
            turned = -told
            self.assertIs(type(turned), type(told))
            self.assertEqual(-turned, told)
            for value in (-2, -1, 0, 1, 2, None):
                away = None if value is None else -value
                self.assertEqual(away in turned, value in told)
                self.assertEqual(away in turned.wants, value in told.wants)

    def test_equal(self):
        all_tolds, same = tolds_over((0, 1, 3)), tolds_over((0, 1, 3))
        for at, one in enumerate(all_tolds):
            for k, other in enumerate(same):
                self.assertIs(one == other, at == k)
                self.assertIs(one != other, at != k)
            self.assertIs(one == str(one), False)
        for value in odd_values():
            self.assertIs(FullSpan(4, 5) == value, False)
            self.assertIs(Blank() == value, type(value) is Blank)
        self.assertEqual(FullList(1, 2), FullList(2, 1))


class Gathers(Case):
    def test_span_of(self):
        self.assertEqual(Told.span_of([5, None, 2, 5]), HoledSpan(2, 5))
        self.assertEqual(Told.span_of((5, 2, 9)), FullSpan(2, 9))
        self.assertEqual(Told.span_of([5]), FullSpan(5, 5))
        self.assertEqual(Told.span_of([None, None]), Blank())

    def test_list_of(self):
        self.assertEqual(Told.list_of([5, None, 2, 5]), HoledList(2, 5))
        self.assertEqual(Told.list_of((5, 2, 9)), FullList(2, 5, 9))
        self.assertEqual(Told.list_of([None]), Blank())
        self.assertEqual(Told.list_of([*range(9), None, *range(9)]), HoledList(*range(9)))
        self.refuses(TooMany("values", 9), Told.list_of, [*range(10)])
        self.refuses(TooMany("values", 9), Told.list_of, values=(None, *range(10)))

    def test_refusals(self):
        for gather in (Told.span_of, Told.list_of):
            for value in odd_values():
                if not isinstance(value, (list, tuple)) or not value:
                    self.refuses(BadTold("values"), gather, value)
            for value in odd_values():
                if value is not None and type(value) is not int:
                    self.refuses(BadValue(value), gather, [1, None, value, "y", *range(20)])
                    self.refuses(BadValue(value), gather, (value,))

    def test_arguments_are_not_changed_and_not_kept(self):
        values = [5, None, 2, 5]
        span, listed = Told.span_of(values), Told.list_of(values)
        self.assertEqual(values, [5, None, 2, 5])
        values.append(70)
        self.assertEqual((span, listed), (HoledSpan(2, 5), HoledList(2, 5)))

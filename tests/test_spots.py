"""Tests of spots, of rows made of them, and of what two filters have in common."""

import itertools
import random

from headskip.errors import BadName, BadValue, NoName, TooMany
from headskip.filters import Always, Among, AtMost, Less, Missing, Never, Same
from headskip.heads import Head
from headskip.spots import Limit, Part, alike, deciding_rows, same_truth, shows_part, spots, within
from headskip.tolds import Blank, FullList, FullSpan, HoledList, HoledSpan, OpenSpan
from helpers import Case, exactly, odd_values, random_filter, random_told

GREAT = 10 ** 29


def linked_by(column, links):
    """The columns that are linked with one, by the words of the document."""
    found, left = {column}, list(links)
    while any(found & set(pair) and set(pair) - found for pair in left):
        found |= {name for pair in left if found & set(pair) for name in pair}
    return found


def spots_by_the_document(marks, many):
    """The integers at and next to some marks, gap by gap; small gaps alone are gone through."""
    marks = sorted(set(marks))
    if not marks:
        return list(range(many))
    found = {marks[0] - k for k in range(1, many + 1)} | {marks[-1] + k for k in range(1, many + 1)} | set(marks)
    for low, high in zip(marks, marks[1:]):
        gap = range(low + 1, high)
        found |= set(gap[:many]) | set(gap[-many:])
    return sorted(found)


def marks_of(test, linked):
    """The constants that stand beside linked columns."""
    found = []
    text = str(test).replace("(", " ").replace(")", " ").replace(" and ", " ; ").replace(" or ", " ; ")
    for part in text.split(";"):
        words = part.split()
        if any(word in linked for word in words):
            found += [int(word) for word in words if word.lstrip("-").isdigit()]
    return found


def head_marks(head, linked):
    """The ends of the spans and the values of the lists of linked columns."""
    found = []
    for name in linked:
        told = head[name]
        found += getattr(told, "listed", () if told.low is None else (told.low, told.high))
    return found


def ordered(rows):
    return sorted(rows, key=lambda row: [(value is None, value) for value in row])


def random_head(rng, names, numbers, rows=9):
    while True:
        try:
            return Head.of(rows, {name: random_told(rng, numbers) for name in names})
        except TooMany:
            pass


class Limits(Case):
    def test_attributes_and_equal(self):
        limit = Limit("x", 3, GREAT)
        self.assertTrue(exactly((limit.column, limit.low, limit.high), ("x", 3, GREAT)))
        self.assertTrue(exactly(vars(Limit("x")), {"column": "x", "low": None, "high": None}))
        self.assertEqual(Limit(high=5, column="y"), Limit("y", None, 5))
        others = [Limit("x"), Limit("y"), Limit("x", 0), Limit("x", None, 0), Limit("x", 0, 0), Limit("x", 5, -5)]
        for at, one in enumerate(others):
            for k, other in enumerate(others):
                self.assertIs(one == other, at == k)
        for value in odd_values():
            self.assertIs(Limit("z") == value, False)

    def test_refusals(self):
        for value in odd_values():
            if value not in ("x", "y", "low"):
                self.refuses(BadName(value), Limit, value, "low", "high")
            if value is not None and type(value) is not int:
                self.refuses(BadValue(value), Limit, "x", value, "high")
                self.refuses(BadValue(value), Limit, "x", 5, value)
                self.refuses(BadValue(value), Limit, "x", high=value)


class Spots(Case):
    def test_without_links(self):
        head = Head(5, x=FullSpan(0, 20), y=OpenSpan(3, 30), z=Blank())
        for test, column, wanted in (
            (Less("x", 8), "x", (0, 1, 7, 8, 9, 19, 20)), (Less("x", 8), "y", (3, 4, 29, 30, None)),
            (Always(), "z", (None,)), (Less("z", 5), "z", (None,)),
            (Less("x", 50) | Less("x", -50), "x", (0, 1, 19, 20)), (Less("x", 1) | Less("x", 2), "x", (0, 1, 2, 3, 19, 20)),
            (Among("y", 5, 7, 9), "y", (3, 4, 5, 6, 7, 8, 9, 10, 29, 30, None)), (Missing("y"), "y", (3, 4, 29, 30, None)),
            (Same("x", "x") & Less("x", 3), "x", (0, 1, 2, 3, 4, 19, 20)),
        ):
            self.assertTrue(exactly(spots(head, test, column), wanted), (str(test), column))
        self.assertEqual(spots(Head(9, x=HoledList(1, 7, 3)), Less("x", 5), "x"), (1, 3, 7, None))

    def test_with_links(self):
        head = Head(5, x=FullSpan(0, 20), y=OpenSpan(3, 30), z=FullSpan(1, 9))
        self.assertEqual(spots(head, Same("x", "y"), "x"), (0, 1, 2, 3, 4, 5, 18, 19, 20))
        self.assertEqual(spots(head, Less("x", "y"), "y"), (3, 4, 5, 18, 19, 20, 21, 22, 28, 29, 30, None))
        self.assertEqual(spots(head, Same("x", "y"), "z"), (1, 2, 8, 9))
        self.assertEqual(spots(head, Same("x", "y") & Less("y", 10) & Less("z", 5), "x"),
                         (0, 1, 2, 3, 4, 5, 8, 9, 10, 11, 12, 18, 19, 20))
        both = Head(5, x=FullList(4, 50), y=HoledList(9), z=Blank())
        self.assertEqual(spots(both, Same("x", "y"), "x"), (4, 50))
        self.assertEqual(spots(Head(3, x=Blank(), y=FullSpan(0, 99)), Less("x", "y"), "y"), (0, 1, 2, 97, 98, 99))

    def test_great_gaps(self):
        head = Head(5, x=OpenSpan(-GREAT, GREAT), y=FullSpan(0, 1))
        self.assertEqual(spots(head, Less("x", 0), "x"),
                         (-GREAT, 1 - GREAT, -1, 0, 1, GREAT - 1, GREAT, None))
        self.assertEqual(spots(head, Less("x", "y"), "x"),
                         (-GREAT, 1 - GREAT, 2 - GREAT, -2, -1, 0, 1, 2, 3, GREAT - 2, GREAT - 1, GREAT, None))

    def test_with_limits(self):
        head = Head(5, x=FullSpan(0, 20), y=FullSpan(5, 9))
        self.assertEqual(spots(head, Always(), "x", Limit("x", 4, 12)), (0, 1, 3, 4, 5, 11, 12, 13, 19, 20))
        self.assertEqual(spots(head, Always(), "x", limit=Limit("x", high=12)), (0, 1, 11, 12, 13, 19, 20))
        self.assertEqual(spots(head, Always(), "x", Limit("x", 15, 12)), (0, 1, 11, 12, 13, 14, 15, 16, 19, 20))
        self.assertEqual(spots(head, Always(), "x", Limit("x")), (0, 1, 19, 20))
        self.assertEqual(spots(head, Always(), "y", Limit("x", 7)), (5, 6, 8, 9))
        self.assertEqual(spots(head, Less("x", "y"), "y", Limit("x", 7)), (5, 6, 7, 8, 9))
        self.assertEqual(spots(head, Less("x", "y"), "x", Limit("y", 15)),
                         (0, 1, 2, 3, 4, 5, 6, 7, 8, 9, 10, 11, 13, 14, 15, 16, 17, 18, 19, 20))

    def test_all_by_the_document(self):
        rng = random.Random(12)
        for _ in range(300):
            head = random_head(rng, "xyz", (0, 1, 9, 30))
            test = random_filter(rng, ["x", "y", "z"], [3, 9, 15, 31], 5)
            limit = rng.choice((None, Limit("x", 5), Limit("y", 12, 20), Limit("z", None, 8)))
            for column in "xyz":
                linked = linked_by(column, test.links)
                marks = marks_of(test, linked) + head_marks(head, linked)
                if limit is not None and limit.column in linked:
                    marks += [end for end in (limit.low, limit.high) if end is not None]
                wanted = [value for value in [*spots_by_the_document(marks, len(linked)), None] if value in head[column]]
                self.assertEqual(spots(head, test, column, limit), tuple(wanted), (str(head), str(test)))

    def test_refusals(self):
        head = Head(5, x=FullSpan(0, 20), y=FullSpan(5, 9))
        test = Less("z", 3) & Less("b", 3)
        self.refuses(NoName("b"), spots, head, test, "w", Limit("a"))
        self.refuses(NoName("z"), spots, head, Less("x", 3) & Missing("z"), "w", Limit("a"))
        self.refuses(NoName("a"), spots, head, Less("x", 3), "w", Limit("a"))
        for value in odd_values():
            if value not in ("x", "y"):
                self.refuses(NoName(value), spots, head, Less("x", 3), value)


class DecidingRows(Case):
    def test_all_rows_ascending(self):
        rng = random.Random(13)
        for _ in range(100):
            names = "xyz"[:rng.randint(1, 3)]
            head = random_head(rng, names, (0, 5, 6))
            test = random_filter(rng, list(names), [2, 5, 9], 3)
            limit = rng.choice((None, Limit("x", 3, 4)))
            columns = [spots(head, test, name, limit) for name in names]
            rows = list(deciding_rows(head, test, limit))
            self.assertEqual(rows, list(itertools.product(*columns)))
            self.assertEqual(rows, ordered(rows))
        self.assertEqual(list(deciding_rows(Head(2, x=FullList(2, 5)), AtMost("x", 3))), [(2,), (5,)])

    def test_they_stand_for_all_rows(self):
        rng = random.Random(14)
        for _ in range(120):
            head = random_head(rng, "xy", (0, 2, 7, 8))
            test = random_filter(rng, ["x", "y"], [1, 2, 4, 8], 4)
            stands = [self.look(head, test, row) for row in deciding_rows(head, test)]
            domain = [[value for value in (*range(10), None) if value in head[name]] for name in head]
            for row in itertools.product(*domain):
                truth, wants, _ = self.look(head, test, row)
                near = [other for *same, other in stands if same == [truth, wants]]
                self.assertTrue(near, (str(head), str(test), row))
                for k, value in enumerate(row):
                    if value is not None:
                        self.assertTrue(any(other[k] is not None and other[k] >= value for other in near))
                        self.assertTrue(any(other[k] is not None and other[k] <= value for other in near))

    def look(self, head, test, row):
        named = dict(zip(head.names, row))
        return test.truth(named), [named[name] == want for name, want in head.wanted], row

    def test_it_is_a_generator(self):
        found = deciding_rows(Head(2, x=FullList(2, 5)), AtMost("x", 3))
        self.assertEqual((next(found), next(found), next(found, "end")), ((2,), (5,), "end"))

    def test_refusals(self):
        head = Head(5, x=FullSpan(0, 20))
        for test, limit, name in ((Less("z", "b"), Limit("a"), "b"), (Less("x", "z"), Limit("a"), "z"),
                                  (Less("x", 3), Limit("a"), "a"), (Always(), Limit("y", 3), "y")):
            self.refuses(NoName(name), lambda: next(deciding_rows(head, test, limit)))
            self.refuses(NoName(name), lambda: list(deciding_rows(head=head, test=test, limit=limit)))


def first_part(one, other, parts):
    """The first row of spots at which two filters part, by the words of the document."""
    names = sorted({*one.columns, *other.columns}) or ["a"]
    links = one.links + other.links
    columns = []
    for name in names:
        linked = linked_by(name, links)
        columns.append([*spots_by_the_document(marks_of(one, linked) + marks_of(other, linked), len(linked)), None])
    for row in itertools.product(*columns):
        named = dict(zip(names, row))
        if parts(one.truth(named), other.truth(named)):
            return Part(tuple(names), row)
    return None


class TwoFilters(Case):
    def check(self, one, other):
        for call, parts in ((within, lambda a, b: a is True and b is not True),
                            (alike, lambda a, b: (a is True) != (b is True)), (same_truth, lambda a, b: a is not b)):
            found, wanted = call(one, other), first_part(one, other, parts)
            self.assertIs(type(found), type(wanted))
            if found is not None:
                self.assertTrue(exactly(vars(found), vars(wanted)), (str(one), str(other), vars(found), vars(wanted)))

    def test_examples_of_parts(self):
        for call, one, other, names, row in (
            (within, Less("x", 9), Less("x", 8), ("x",), (8,)), (within, Always(), Never(), ("a",), (0,)),
            (within, Less("x", "y"), AtMost("y", 7), ("x", "y"), (5, 8)), (within, Missing("x"), Never(), ("x",), (None,)),
            (within, Always(), Less("x", 5), ("x",), (5,)), (alike, Never(), Less("x", 5), ("x",), (4,)),
            (within, Always(), ~Same("x", "y"), ("x", "y"), (0, 0)), (alike, ~Less("x", 5), Always(), ("x",), (4,)),
            (same_truth, Less("x", 5), AtMost("x", 4) | Missing("x"), ("x",), (None,)),
            (within, Less("b", "c") & Less("x", 9), Less("x", 3), ("b", "c", "x"), (0, 1, 3)),
            (within, Same("x", "y"), ~Same("y", "z"), ("x", "y", "z"), (0, 0, 0)),
        ):
            self.assertTrue(exactly(vars(call(one, other)), {"names": names, "row": row}), (str(one), str(other)))

    def test_none(self):
        for one, other in ((Less("x", 8), Less("x", 9)), (Never(), Always()), (Same("x", "y"), AtMost("x", "y")),
                           (Less("x", "y") & Less("y", 5), Less("x", 4)), (Always(), Always())):
            self.assertIsNone(within(one, other))
        self.assertIsNone(within(Less("x", "y") & Less("y", 3), Less("x", "y") & Less("x", 2)))
        self.assertIsNone(alike(~Less("x", 8), AtMost(8, "x")))
        self.assertIsNone(alike(Same("x", "x"), ~Missing("x")))
        self.assertIsNone(same_truth(one=~Less("x", 8), other=AtMost(8, "x")))
        self.assertIsNone(same_truth(Less("x", "y") & ~Less("y", "x"), ~~Less("x", "y")))

    def test_linked_over_both(self):
        one, other = Less("x", "y") & Less("y", 9), Less("z", "y") | Less("z", 2)
        self.check(one, other)
        self.assertEqual(within(one, other), Part(("x", "y", "z"), (-1, 0, 2)))

    def test_many(self):
        rng = random.Random(15)
        for _ in range(150):
            names = [["x", "y"], ["y", "z"], ["x"], ["x", "z"]]
            self.check(random_filter(rng, rng.choice(names), [0, 4, 5], 4), random_filter(rng, rng.choice(names), [4, 9], 3))

    def test_they_stand_for_all_rows(self):
        rng = random.Random(16)
        for _ in range(150):
            one, other = (random_filter(rng, ["x", "y"], [2, 3, 5], 3) for _ in range(2))
            truths = []
            for x, y in itertools.product((*range(8), None), repeat=2):
                truths.append((one.truth({"x": x, "y": y}), other.truth({"x": x, "y": y})))
            self.assertIs(within(one, other) is None, all(b is True for a, b in truths if a is True))
            self.assertIs(alike(one, other) is None, all((a is True) == (b is True) for a, b in truths))
            self.assertIs(same_truth(one, other) is None, all(a is b for a, b in truths))

    def test_too_many_columns(self):
        for call in (within, alike, same_truth):
            self.refuses(TooMany("columns", 3), call, Less("x", "y"), Less("z", "w"))
            self.refuses(TooMany("columns", 3), call, Less("x", "y") & Less("z", "w"), Always())
            self.refuses(TooMany("columns", 3), call, one=Never(), other=Less("x", "y") | Less("z", "w"))


class Papers(Case):
    def test_parts(self):
        part = Part(["x"], {"any": None})
        self.assertEqual((part.names, part.row), (["x"], {"any": None}))
        self.assertFalse(part)
        self.assertEqual(Part(names=1, row=(2,)), Part(True, (2,)))
        self.assertNotEqual(Part(1, 2), Part(1, 3))
        self.assertNotEqual(Part(1, 2), Part(2, 2))
        for value in odd_values():
            self.assertIs(Part("z", "z") == value, False)
            self.assertTrue(exactly(vars(Part(value, value))["names"], value))

    def test_shows_part(self):
        one, other = Less("x", "y"), AtMost("y", 7)
        for names, row, wanted in (
            (("x", "y"), (5, 8), True), (("x", "y"), (-GREAT, GREAT), True), (("a", "x", "y"), (None, 5, 8), True),
            (("x", "y", "z"), (5, 8, 0), True), (("x", "y"), (5, 7), False), (("x", "y"), (8, 8), False),
            (("x", "y"), (None, 8), False), (("x",), (5,), False), (("y",), (8,), False), (("y", "x"), (8, 5), False),
            (["x", "y"], (5, 8), False), (("x", "y"), [5, 8], False), (("x", "y"), (5, 8, 9), False),
            (("x", "y", "z"), (5, 8), False), (("x", "x", "y"), (5, 5, 8), False), (("x", "y"), (False, 8), False),
            (("X", "x", "y"), (1, 5, 8), False), (("a", "b", "x", "y"), (1, 1, 5, 8), False), ((), (), False),
        ):
            self.assertIs(shows_part(one, other, Part(names, row)), wanted, (names, row))

    def test_shows_part_for_any_value(self):
        for value in odd_values():
            wanted = isinstance(value, Part) and value.names == ("x",)
            self.assertIs(shows_part(Always(), Never(), value), wanted)
            self.assertIs(shows_part(Less("x", 5), Never(), Part(value, (3,))), exactly(value, ("x",)))
            is_right = exactly(value, (1,))
            self.assertIs(shows_part(Less("x", 5), Never(), Part(("x",), value)), is_right)

    def test_shows_part_for_what_within_finds(self):
        rng = random.Random(17)
        for _ in range(200):
            one, other = (random_filter(rng, ["x", "y"], [2, 3, 5], 3) for _ in range(2))
            found = within(one, other)
            self.assertIs(shows_part(one, other, paper=found), found is not None)
            self.assertIs(shows_part(other, one, found), False)
        wide = Less("x", "y") | Less("z", "w")
        self.assertIs(shows_part(wide, Never(), Part(("w", "x", "y", "z"), (1, 1, 2, 2))), False)


class HoledHeads(Case):
    def test_null_is_a_spot_where_it_is_let(self):
        for told, null in ((FullSpan(0, 2), False), (HoledSpan(0, 2), True), (OpenSpan(0, 2), True), (Blank(), True)):
            self.assertIs(None in spots(Head(3, x=told), Always(), "x"), null)

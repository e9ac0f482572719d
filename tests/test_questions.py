"""Tests of questions: making them, and their answers."""

import random

from headskip.errors import BadLots, BadName, BadQuestion, BadShelf, BadTable, NoName
from headskip.filters import Always, Filter, Less, Missing, Never, Same
from headskip.heads import Head
from headskip.lots import Lots
from headskip.questions import AtLeast, Greatest, Least, Many, OfColumn, Question, Some, Top, Total
from headskip.shelves import Shelf, Table
from headskip.tolds import Blank, FullSpan
from brute import all_contents, answer_on, lots_of, small_head
from helpers import Case, exactly, odd_values, random_filter

GREAT = 10 ** 29
TEST = Less("b", 5)
NAMES = ("x", "y", "low", "w")


def questions_of(test, column="x", many=2):
    """One question of each class."""
    return [Some(test), Many(test), AtLeast(many, test), Greatest(column, test), Least(column, test), Total(column, test),
            Top(many, column, test)]


def is_many(value, most):
    return type(value) is int and 1 <= value and (most is None or value <= most)


class Making(Case):
    def test_attributes(self):
        for question, asked, quota, columns in (
            (Some(TEST), None, 1, ("b",)), (Many(TEST), None, None, ("b",)), (AtLeast(GREAT, TEST), None, GREAT, ("b",)),
            (Greatest("x", TEST), "x", 1, ("b", "x")), (Least("a", TEST), "a", 1, ("a", "b")),
            (Total("b", TEST), "b", None, ("b",)), (Top(4, "x", TEST), "x", 4, ("b", "x")),
            (Some(Always()), None, 1, ()), (Top(1, "x", Same("y", "a")), "x", 1, ("a", "x", "y")),
        ):
            self.assertTrue(exactly((question.asked, question.quota, question.columns), (asked, quota, columns)), str(question))
            self.assertIsInstance(question.test, Filter)
            self.assertTrue({"test", "asked", "quota"} <= set(vars(question)))
        self.assertEqual([question.test for question in questions_of(TEST)], [TEST] * 7)

    def test_by_name(self):
        made = [Some(test=TEST), Many(test=TEST), AtLeast(test=TEST, many=2), Greatest(test=TEST, column="x"),
                Least(test=TEST, column="x"), Total(test=TEST, column="x"), Top(test=TEST, column="x", many=2)]
        self.assertEqual(made, questions_of(TEST))

    def test_what_stands_below_what(self):
        self.assertEqual([made.__bases__ for made in (Some, Many, AtLeast, OfColumn)], [(Question,)] * 4)
        self.assertEqual([made.__bases__ for made in (Greatest, Least, Total, Top)], [(OfColumn,)] * 4)
        self.assertEqual([isinstance(question, OfColumn) for question in questions_of(TEST)], [False] * 3 + [True] * 4)

    def test_refusals(self):
        for value in odd_values():
            if not isinstance(value, Filter):
                for make in (Some, Many):
                    self.refuses(BadQuestion("test"), make, value)
                for make in (Greatest, Least, Total):
                    self.refuses(BadQuestion("test"), make, "x", value)
                self.refuses(BadQuestion("test"), AtLeast, 3, value)
                self.refuses(BadQuestion("test"), Top, 3, "x", value)
            if value not in NAMES:
                for make in (Greatest, Least, Total):
                    self.refuses(BadName(value), make, value, value if not isinstance(value, Filter) else None)
                self.refuses(BadName(value), Top, 4, value, None)
            if not is_many(value, None):
                self.refuses(BadQuestion("many"), AtLeast, value, None)
            if not is_many(value, 4):
                self.refuses(BadQuestion("many"), Top, value, "X", None)
        for many in (0, 5, -1, True, GREAT):
            self.refuses(BadQuestion("many"), Top, many, "x", TEST)

    def test_equal(self):
        made = [*questions_of(TEST), *questions_of(Less("b", 6)), *questions_of(TEST, "y", 3)[2:], *questions_of(TEST, "x", 4)[2:3]]
        for at, one in enumerate(made):
            for k, other in enumerate(made):
                self.assertIs(one == other, at == k, (str(one), str(other)))
                self.assertIs(one != other, at != k)
            for value in odd_values():
                self.assertIs(one == value, False)
            self.assertIs(one == str(one), False)
        self.assertEqual(questions_of(TEST), questions_of(Less("b", 5)))
        self.assertNotEqual(Some(TEST), AtLeast(1, TEST))
        self.assertNotEqual(Greatest("x", TEST), Top(1, "x", TEST))


class Answers(Case):
    def test_nulls_and_rows_many_times(self):
        rows = Lots(((4, 0), 1), ((7, 0), 2), ((9, 1), GREAT), ((None, 0), 5))
        zero, one = Same("y", 0), Same("y", 1)
        for test, wanted in (
            (zero, [True, 8, True, 7, 4, 18, (7, 7, 4)]), (one, [True, GREAT, True, 9, 9, 9 * GREAT, (9, 9, 9)]),
            (Missing("x"), [True, 5, True, None, None, 0, ()]), (Never(), [False, 0, False, None, None, 0, ()]),
            (Always(), [True, GREAT + 8, True, 9, 4, 9 * GREAT + 18, (9, 9, 9)]), (Less("x", 5), [True, 1, False, 4, 4, 4, (4,)]),
        ):
            found = [question.on(("x", "y"), rows) for question in questions_of(test, "x", 3)]
            self.assertTrue(exactly(found, wanted), (str(test), found))
        self.assertEqual(Top(2, "x", zero).on(("x", "y"), rows), (7, 7))
        self.assertEqual(AtLeast(8, zero).on(names=("x", "y")), False)

    def test_no_blocks_and_no_rows(self):
        for blocks in ([], [Lots()], [Lots(), Lots()]):
            found = [question.on(("b", "x"), *blocks) for question in questions_of(TEST)]
            self.assertTrue(exactly(found, [False, 0, False, None, None, 0, ()]))
        self.assertEqual(Many(TEST).on(("b", "x"), Lots(), Lots(((1, 2), 3))), 3)

    def test_counting_the_rows_one_by_one(self):
        rng = random.Random(81)
        for _ in range(250):
            names = "xyz"[:rng.choice((1, 2, 2, 3))]
            shelf = Shelf(*[small_head(rng, names, (-1, 0, 2) if len(names) < 3 else (0, 1)) for _ in range(rng.randint(1, 4))])
            blocks = [rng.choice(all_contents(head)) for head in shelf]
            table = Table(*[lots_of(rows) for rows in blocks])
            test = random_filter(rng, list(names), [-1, 0, 1, 2], 3)
            for question in questions_of(test, rng.choice(names), rng.randint(1, 4)):
                wanted = answer_on(question, shelf.names, [row for rows in blocks for row in rows])
                self.assertTrue(exactly(question(shelf, table), wanted), str(question))
                self.assertTrue(exactly(question.on(shelf.names, *list(table)), wanted), str(question))
                self.assertTrue(exactly(question(table=table, shelf=shelf), wanted), str(question))
                self.check_joined(question, shelf, table, wanted)

    def check_joined(self, question, shelf, table, wanted):
        answers = [question.on(shelf.names, lots) for lots in table]
        if isinstance(question, AtLeast) and question.quota > 1:
            self.refuses(BadQuestion("joined"), question.joined, *answers)
        else:
            self.assertTrue(exactly(question.joined(*answers), wanted), str(question))

    def test_refusals_of_tables(self):
        shelf = Shelf(Head(2, b=FullSpan(3, 7), x=Blank()), Head(1, b=FullSpan(5, 5), x=FullSpan(0, 9, False, False)))
        good, bad = Lots(((3, None), 1), ((7, None), 1)), Lots(((5, 10), 1))
        for question in questions_of(TEST):
            for value in [*odd_values(), Table(good), Table(good, Lots(((5, 4), 1)), good)]:
                self.refuses(BadTable(None), question, shelf, value)
            self.refuses(BadTable(0), question, shelf, Table(bad, bad))
            self.refuses(BadTable(1), question, shelf, Table(good, bad))
            self.refuses(BadTable(0), question, shelf, Table(good, good).with_block(0, Lots()))
        for value in odd_values():
            for question in questions_of(Less("y", "d") | Less("c", 4)):
                self.refuses(NoName("c"), question, shelf, value)
            self.refuses(NoName("a"), Greatest("a", Less("y", 3)), shelf, value)
            self.refuses(NoName("y"), Greatest("z", Less("y", 3)), shelf, value)

    def test_refusals_of_on(self):
        block = Lots(((1, 2), 1))
        for question in questions_of(TEST):
            for value in odd_values():
                if value != ("x",):
                    self.refuses(BadShelf("names"), question.on, value, value)
                if not isinstance(value, Lots) or value.width == 1:
                    self.refuses(BadLots(0), question.on, ("b", "x"), value)
                    self.refuses(BadLots(2), question.on, ("b", "x"), block, Lots(), value, 3)
            for names in ((), ("x", "b"), ("b", "b", "x"), ["b", "x"], ("a", "b", "c", "x"), ("b", "x", "Y"), ("b", "not")):
                self.refuses(BadShelf("names"), question.on, names, 3)
            self.refuses(BadLots(0), question.on, ("b", "x", "y"), block)
            self.refuses(NoName("b"), question.on, ("x", "y"), 3)
        for question in questions_of(TEST)[3:]:
            self.refuses(NoName("x"), question.on, ("a", "b"), 3)


class Joined(Case):
    def test_of_none(self):
        found = [question.joined() for question in questions_of(TEST, "x", 1)]
        self.assertTrue(exactly(found, [False, 0, False, None, None, 0, ()]))

    def test_of_some(self):
        for question, answers, wanted in (
            (Some(TEST), (False, True, False), True), (Some(TEST), (False,) * 6, False), (Many(TEST), (3, 0, GREAT), GREAT + 3),
            (AtLeast(1, TEST), (False, True), True), (AtLeast(1, TEST), (False, False), False),
            (Greatest("x", TEST), (None, -3, -7), -3), (Greatest("x", TEST), (None, None), None), (Greatest("x", TEST), (0,), 0),
            (Least("x", TEST), (None, -3, -7), -7), (Least("x", TEST), (None,), None), (Total("x", TEST), (-3, 0, 7), 4),
            (Top(3, "x", TEST), ((9, 1), (), (4, 4, 0)), (9, 4, 4)), (Top(4, "x", TEST), ((1,), (2,)), (2, 1)),
            (Top(1, "x", TEST), ((), ()), ()), (Top(2, "x", TEST), ((5, 5), (5, 5)), (5, 5)),
        ):
            self.assertTrue(exactly(question.joined(*answers), wanted), (str(question), answers))

    def test_at_least_more_than_one(self):
        for many in (2, 3, GREAT):
            for answers in ((), (True,), (False, False)):
                self.refuses(BadQuestion("joined"), AtLeast(many, TEST).joined, *answers)

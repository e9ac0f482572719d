"""Tests of covers: the least numbers of matching rows and of others that meet some wants."""

import itertools
import random

from headskip.covers import Covers, covers, shows_covers
from headskip.filters import Always, AtMost, Less, Missing, Never, Same
from headskip.heads import Head
from headskip.kinds import Kinds, kinds
from headskip.spots import Limit
from headskip.tolds import Blank, FullList, FullSpan, HoledList, HoledSpan, OpenSpan
from brute import allowed_rows, does_match, small_head, some_limit
from helpers import Case, exactly, odd_values, random_filter

BLOCK, MIDDLE = Head(2, x=FullSpan(3, 7)), AtMost(4, "x") & AtMost("x", 6)
SQUARE = Head(2, x=FullSpan(0, 1), y=FullSpan(0, 1))
WIDE = Head(4, x=FullList(0, 1, 2), y=HoledList(0, 1), z=HoledSpan(0, 2))


def met_by_rows(head, test, limit, matches):
    """All sets of wants, as numbers, that a row that matches, or does not, can meet."""
    found = set()
    for row in allowed_rows(head):
        if does_match(head.names, test, limit, row) is matches:
            named = dict(zip(head.names, row))
            found.add(sum(2 ** k for k, (name, want) in enumerate(head.wanted) if named[name] == want))
    return found


def least_numbers(met, many):
    """For each set of wants how many rows it takes, by all that one, two, three .. rows can meet together."""
    numbers = [None] * 2 ** many
    together = {0}
    for rows in range(many + 1):
        for at, number in enumerate(numbers):
            if number is None and any(some & at == at for some in together):
                numbers[at] = rows
        together = {some | more for some in together for more in met}
    return tuple(numbers)


def some_cases(many, seed):
    rng = random.Random(seed)
    for _ in range(many):
        names = "xyz"[:rng.randint(1, 3)]
        head = small_head(rng, names, rows=9)
        yield head, random_filter(rng, list(names), [0, 1, 2], 4), some_limit(rng, names, (0, 1, 2))


class LeastNumbers(Case):
    def check(self, head, test, limit=None):
        found = covers(kinds(head, test, limit))
        self.assertIs(type(found), Covers)
        many = len(head.wanted)
        wanted = [least_numbers(met_by_rows(head, test, limit, matches), many) for matches in (True, False)]
        self.assertTrue(exactly([found.matching, found.others], wanted), (str(head), str(test)))

    def test_all_ways_to_meet_the_wants_of_small_heads(self):
        for head, test, limit in some_cases(250, 31):
            self.check(head, test, limit)

    def test_nine_wants(self):
        self.assertEqual(len(WIDE.wanted), 9)
        for test in (Same("x", "y"), Less("y", "z"), Missing("y") | Less("x", 1), Less("x", 2) & ~Same("z", 1)):
            self.check(WIDE, test)
            self.check(WIDE, test, Limit("z", 1))

    def test_no_row_matches_or_each_does(self):
        for head in (BLOCK, SQUARE, WIDE, Head(3, x=Blank())):
            none = (0,) + (None,) * (2 ** len(head.wanted) - 1)
            self.assertEqual(covers(kinds(head, Never())).matching, none)
            self.assertEqual(covers(kinds(head, Always())).others, none)
            self.check(head, Never())
            self.check(head, Always())

    def test_without_wants(self):
        head = Head(3, x=OpenSpan(0, 5, False, False))
        for test in (Always(), Never(), Less("x", 3)):
            self.assertTrue(exactly(covers(kinds(head, test)), Covers((0,), (0,))))

    def test_sets_stand_by_their_index(self):
        head = Head(3, x=FullSpan(0, 9), y=FullSpan(5, 9, False, True))
        found = covers(found=kinds(head, Less("x", 1)))
        self.assertEqual(head.wanted, (("x", 0), ("x", 9), ("y", 9)))
        # Index 1 is {x 0}, 2 is {x 9}, 4 is {y 9}: a match meets x 0 and y 9, another row x 9 and y 9.
        self.assertEqual(found.matching, (0, 1, None, None, 1, 1, None, None))
        self.assertEqual(found.others, (0, None, 1, None, 1, None, 1, None))

    def test_arguments_are_not_changed(self):
        found = kinds(SQUARE, Same("x", "y"))
        covers(found)
        shows_covers(found, covers(found))
        self.assertEqual(found, kinds(SQUARE, Same("x", "y")))


class ShowsCovers(Case):
    def bent(self, numbers):
        """Tuples near to a right one."""
        for at, number in enumerate(numbers):
            for other in (None, 0, -1, 10 ** 59) if number is None else (None, number + 1, number - 1, bool(number)):
                if other is not number:
                    yield (*numbers[:at], other, *numbers[at + 1:])
            yield numbers[:at] + numbers[at + 1:]
            yield (*numbers[:at], number, *numbers[at:])
            yield (*numbers[:at], str(number), *numbers[at + 1:])
        yield list(numbers)
        yield (*numbers, None)
        yield ()

    def test_right_papers(self):
        for head, test, limit in some_cases(100, 32):
            found = kinds(head, test, limit)
            right = covers(found)
            self.assertIs(shows_covers(found, right), True)
            self.assertIs(shows_covers(paper=Covers(right.matching, right.others), found=found), True)

    def test_bent_papers(self):
        cases = [(BLOCK, MIDDLE, None), (SQUARE, Same("x", "y"), None), (BLOCK, Never(), None), (WIDE, Less("x", "y"), None)]
        for head, test, limit in cases + list(some_cases(25, 33)):
            found = kinds(head, test, limit)
            right = covers(found)
            for bent in self.bent(right.matching):
                self.assertIs(shows_covers(found, Covers(bent, right.others)), exactly(bent, right.matching), bent)
            for bent in self.bent(right.others):
                self.assertIs(shows_covers(found, Covers(right.matching, bent)), exactly(bent, right.others), bent)

    def test_numbers_that_follow_some_rules_alone(self):
        found = kinds(BLOCK, MIDDLE)
        right = covers(found)
        for numbers in itertools.product((None, 0, 1, 2, 3), repeat=4):
            self.assertIs(shows_covers(found, Covers(right.matching, numbers)), numbers == (0, 1, 1, 2), numbers)
            self.assertIs(shows_covers(found, Covers(numbers, right.others)), numbers == (0, None, None, None), numbers)

    def test_papers_of_other_kinds(self):
        found = kinds(SQUARE, Same("x", "y"))
        right = covers(found)
        self.assertIs(shows_covers(found, Covers(right.others, right.matching)), False)
        self.assertIs(shows_covers(found, Covers((False, *right.matching[1:]), right.others)), False)
        self.assertIs(shows_covers(found, (right.matching, right.others)), False)
        self.assertIs(shows_covers(found, Kinds((), right.matching, right.others)), False)

    def test_any_value(self):
        found = kinds(BLOCK, MIDDLE)
        right = covers(found)
        for value in odd_values():
            self.assertIs(shows_covers(found, value), False)
            self.assertIs(shows_covers(found, Covers(value, right.others)), False)
            self.assertIs(shows_covers(found, Covers(right.matching, value)), False)
            self.assertIs(shows_covers(found, Covers((0, None, None, value), right.others)), value is None)


class Papers(Case):
    def test_papers_keep_and_compare_any_values(self):
        for value in odd_values():
            paper = Covers(value, [value])
            self.assertTrue(paper)
            self.assertTrue(exactly([paper.matching, paper.others], [value, [value]]))
            self.assertEqual(paper, Covers(others=[value], matching=value))
            self.assertIs(Covers(1, 2) == value, False)
        self.assertEqual(Covers(1, (0,)), Covers(True, (False,)))
        self.assertNotEqual(Covers(1, 2), Covers(2, 2))
        self.assertNotEqual(Covers(1, 2), Covers(1, 1))

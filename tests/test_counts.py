"""Tests of counts: how many rows of a block can match."""

import itertools
import random

from headskip.counts import Counts, counts, lots_with, matches_of, shows_counts
from headskip.covers import covers
from headskip.errors import BadLots, NoCount, NoName
from headskip.filters import Always, AtMost, Less, Missing, Never, Same
from headskip.heads import Head
from headskip.kinds import kinds
from headskip.lots import Lots
from headskip.spots import Limit
from headskip.tolds import Blank, FullList, FullSpan, HoledSpan, OpenSpan
from brute import all_contents, allowed_rows, does_match, lots_of, numbers_of, small_head, some_limit
from helpers import Case, exactly, odd_values, random_filter

SQUARE = Head(2, x=FullSpan(0, 1), y=FullSpan(0, 1))
SAME = Same("x", "y")
GREAT = 10 ** 29


def spread(found):
    """All numbers of small Counts."""
    return [number for low, high in found for number in range(low, high + 1)]


def some_cases(many, seed, rows=None):
    rng = random.Random(seed)
    for _ in range(many):
        names = "xyz"[:rng.choice((1, 1, 2, 2, 3))]
        head = small_head(rng, names, rng.choice(((0, 1), (1, 2)) if names == "xyz" else ((0, 1, 2), (0, 1), (1, 2))), rows)
        yield head, random_filter(rng, list(names), [0, 1, 2, 3], 3), some_limit(rng, names, (0, 1, 2))


class CountsOfBlocks(Case):
    def test_all_contents_of_small_heads(self):
        for head, test, limit in some_cases(400, 41):
            found = counts(head, test, limit)
            self.assertIs(type(found), Counts)
            self.assertEqual(spread(found), numbers_of(head, test, limit), (str(head), str(test)))

    def test_gaps(self):
        for head, test, ranges in (
            (SQUARE, SAME, ((0, 0), (2, 2))), (Head(3, x=FullSpan(0, 1), y=FullSpan(0, 1)), SAME, ((0, 3),)),
            (Head(4, x=FullSpan(0, 3, False, False), y=FullList(0, 1, 2, 3)), SAME, ((0, 4),)),
            (Head(4, x=FullList(0, 1, 2, 3), y=FullList(0, 1, 2, 3)), SAME, ((0, 2), (4, 4))),
            (Head(2, x=FullSpan(3, 7)), AtMost(4, "x") & AtMost("x", 6), ((0, 0),)),
        ):
            self.assertTrue(exactly(counts(head, test).ranges, ranges), (str(head), counts(head, test).ranges))
            self.assertEqual(spread(counts(head, test)), numbers_of(head, test))

    def test_no_row_can_match_or_each_must(self):
        for head in (SQUARE, Head(1, x=FullSpan(5, 5)), Head(GREAT, x=HoledSpan(1, 4)), Head(2, x=Blank())):
            self.assertEqual(counts(head, Never()).ranges, ((0, 0),))
            self.assertEqual(counts(head, Always()).ranges, ((head.rows, head.rows),))
            self.assertEqual(counts(head, Always(), Limit("x", 3, 2)).ranges, ((0, 0),))
        self.assertEqual(counts(Head(7, x=OpenSpan(2, 4, False, False)), Less("x", 2)).ranges, ((0, 0),))
        self.assertEqual(counts(Head(7, x=FullSpan(2, 4, False, False)), Less("x", 5)).ranges, ((7, 7),))
        self.assertEqual(counts(Head(7, x=OpenSpan(2, 4, False, False)), Less("x", 5)).ranges, ((0, 7),))
        self.assertEqual(counts(Head(7, x=Blank()), Missing("x"), Limit("x")).ranges, ((0, 0),))

    def test_limits(self):
        head = Head(3, x=FullSpan(1, 9))
        for limit, ranges in (
            (None, ((1, 2),)), (Limit("x"), ((1, 2),)), (Limit("x", 5), ((0, 0),)), (Limit("x", None, 3), ((1, 2),)),
            (Limit("x", 2, 3), ((0, 0),)), (Limit("x", 1, 1), ((1, 2),)), (Limit("x", 9), ((0, 0),)),
        ):
            self.assertEqual(counts(head, AtMost("x", 1), limit).ranges, ranges)
        self.assertEqual(counts(limit=Limit("x", 2, 8), test=Always(), head=head).ranges, ((0, 1),))

    def test_great_numbers_of_rows(self):
        for head, test, limit in some_cases(150, 42, 9):
            told = covers(kinds(head, test, limit))
            matches = {does_match(head.names, test, limit, row) for row in allowed_rows(head)}
            for rows in (9, 100, GREAT):
                block = Head.of(rows, {name: head[name] for name in head})
                found = counts(block, test, limit)
                for number in (*range(20), *range(rows - 20, rows + 2)):
                    can = any(few is not None and few <= number and rest is not None and rest <= rows - number
                              for few, rest in zip(told.matching, told.others[::-1]))
                    can = can and (number == 0 if True not in matches else number == rows if False not in matches else True)
                    self.assertIs(number in found, can, (str(block), str(test), number))

    def test_missing_columns(self):
        for call in (counts, lambda head, test, limit: shows_counts(head, test, 3, limit),
                     lambda head, test, limit: lots_with(head, test, "many", limit)):
            self.refuses(NoName("a"), call, SQUARE, Less("z", "a"), Limit("b"))
            self.refuses(NoName("z"), call, SQUARE, Less("x", "z"), Limit("b"))
            self.refuses(NoName("b"), call, SQUARE, SAME, Limit("b"))


class CountsThemselves(Case):
    def test_properties(self):
        for found, ranges, minimum, maximum, is_fixed, text in (
            (counts(SQUARE, SAME), ((0, 0), (2, 2)), 0, 2, False, "0, 2"),
            (counts(Head(GREAT, x=FullSpan(0, 9)), Less("x", 4)), ((1, GREAT - 1),), 1, GREAT - 1, False, f"1 to {GREAT - 1}"),
            (counts(SQUARE, Always()), ((2, 2),), 2, 2, True, "2"), (counts(SQUARE, Never()), ((0, 0),), 0, 0, True, "0"),
        ):
            self.assertTrue(exactly(found.ranges, ranges))
            self.assertTrue(exactly((found.minimum, found.maximum, found.is_fixed), (minimum, maximum, is_fixed)))
            self.assertTrue(exactly((len(found), list(found), str(found)), (len(ranges), list(ranges), text)))

    def test_in_for_any_value(self):
        found = counts(SQUARE, SAME)
        for value in odd_values():
            self.assertIs(value in found, type(value) is int and value in (0, 2))
        self.assertIs(GREAT - 1 in counts(Head(GREAT, x=FullSpan(0, 9)), Less("x", 4)), True)
        self.assertIs(GREAT in counts(Head(GREAT, x=FullSpan(0, 9)), Less("x", 4)), False)

    def test_equal(self):
        self.assertEqual(counts(SQUARE, SAME), counts(SQUARE, ~SAME))
        self.assertIs(counts(SQUARE, SAME) != counts(SQUARE, SAME), False)
        self.assertNotEqual(counts(SQUARE, SAME), counts(SQUARE, Always()))
        for value in [*odd_values(), ((0, 0), (2, 2))]:
            self.assertIs(counts(SQUARE, SAME) == value, False)

    def test_sums(self):
        rng = random.Random(43)
        blocks = [counts(head, test, limit) for head, test, limit in some_cases(60, 44)]
        blocks += [counts(SQUARE, SAME), counts(Head(4, x=FullList(0, 1, 2, 3), y=FullList(0, 1, 2, 3)), SAME)] * 10
        for _ in range(300):
            one, other = rng.choice(blocks), rng.choice(blocks)
            found = one + other
            self.assertIs(type(found), Counts)
            self.assertEqual(spread(found), sorted({a + b for a in spread(one) for b in spread(other)}))
            self.assertTrue(all(high + 1 < low for (_, high), (low, _) in itertools.pairwise(found.ranges)))
            self.assertEqual(found, other + one)

    def test_ranges_that_come_to_touch(self):
        odd, loose = counts(SQUARE, SAME), counts(Head(1, x=FullSpan(0, 1, False, False)), Less("x", 1))
        self.assertEqual([(odd + odd).ranges, (odd + loose).ranges, (odd + odd + loose).ranges],
                         [((0, 0), (2, 2), (4, 4)), ((0, 3),), ((0, 5),)])
        self.assertEqual((odd + counts(Head(GREAT, x=FullSpan(0, 9)), Less("x", 4))).ranges, ((1, GREAT + 1),))

    def test_sums_with_anything_else(self):
        for value in [*odd_values(), ((0, 0),)]:
            if not isinstance(value, Counts):
                self.refuses(BadLots("other"), lambda: counts(SQUARE, SAME) + value)


class ShowsCounts(Case):
    def test_right_ranges(self):
        for head, test, limit in some_cases(60, 45):
            self.assertIs(shows_counts(head, test, counts(head, test, limit).ranges, limit), True)
        self.assertIs(shows_counts(limit=Limit("x", 1), ranges=((0, 1),), test=Less("x", 2), head=Head(2, x=FullSpan(0, 1))), False)
        self.assertIs(shows_counts(Head(2, x=FullSpan(0, 1)), Less("x", 2), ((1, 1),), Limit("x", 1)), True)

    def test_bent_ranges(self):
        for bent in ((), ((0, 0),), ((2, 2),), ((0, 2),), ((2, 2), (0, 0)), ((0, 0), (1, 1), (2, 2)), ((0, 0), (0, 0), (2, 2)),
                     [(0, 0), (2, 2)], ([0, 0], (2, 2)), ((False, 0), (2, 2)), ((0, 0), (2, 2, 2)), ((0, 0), (2,)),
                     ((0, 0), (2, 3)), ((0, 0), 2), ((0, "0"), (2, 2)), ((0, 0), (2, 2), None)):
            self.assertIs(shows_counts(SQUARE, SAME, bent), False, bent)
        self.assertIs(shows_counts(SQUARE, SAME, ((0, 0), (2, 2))), True)
        self.assertIs(shows_counts(SQUARE, Always(), ((True, True),)), False)
        self.assertIs(shows_counts(Head(1, x=FullSpan(1, 1)), Always(), ((1, True),)), False)

    def test_any_value(self):
        for value in odd_values():
            self.assertIs(shows_counts(SQUARE, SAME, value), False)
            self.assertIs(shows_counts(SQUARE, SAME, (value, (2, 2))), False)
            self.assertIs(shows_counts(SQUARE, SAME, ((0, 0), (2, value))), False)


class LotsWith(Case):
    def check(self, head, test, many, limit):
        lots = lots_with(head, test, many, limit)
        self.assertIs(head.fits(lots), True)
        self.assertEqual(sum(times for row, times in lots if does_match(head.names, test, limit, row)), many)
        self.assertLessEqual(len(lots), len(head.wanted) + 2)
        self.assertEqual(lots, lots_with(limit=limit, many=many, test=test, head=head))

    def test_each_possible_number(self):
        for head, test, limit in some_cases(200, 46):
            found = counts(head, test, limit)
            for many in range(-1, head.rows + 2):
                if many in found:
                    self.check(head, test, many, limit)
                else:
                    self.refuses(NoCount(many), lots_with, head, test, many, limit)

    def test_great_blocks(self):
        for head, test, limit in some_cases(100, 47, GREAT):
            for low, high in counts(head, test, limit):
                for many in {low, min(low + 1, high), (low + high) // 2, high}:
                    self.check(head, test, many, limit)

    def test_three_columns(self):
        head = Head(5, x=FullSpan(0, 9), y=HoledSpan(0, 9), z=FullList(1, 2))
        test = Less("x", "y") & Less("z", 2) | Missing("y") & Same("x", 9)
        for many in spread(counts(head, test)):
            self.check(head, test, many, None)
            self.check(head, ~test, 5 - many if 5 - many in counts(head, ~test) else counts(head, ~test).minimum, None)

    def test_wants_that_few_matches_cannot_meet(self):
        # One row must be (9, 0), the only match that leaves both other ends to one row that does not match.
        head = Head(2, x=FullSpan(0, 9), y=FullSpan(0, 9))
        between = Same("x", 0) & Less(0, "y") & Less("y", 9) | Same("y", 0) & Less(0, "x") & Less("x", 9)
        test = Same("x", 9) & Same("y", 0) | between
        self.assertEqual(counts(head, test).ranges, ((0, 1),))
        self.assertEqual(lots_with(head, test, 1), Lots(((0, 9), 1), ((9, 0), 1)))

    def test_any_value_that_is_no_possible_number(self):
        for value in odd_values():
            if type(value) is not int or value not in (0, 2):
                self.refuses(NoCount(value), lots_with, SQUARE, SAME, value)


class MatchesOf(Case):
    def test_names_in_any_order(self):
        lots = Lots(((1, 5), 2), ((5, 1), 7), ((None, 3), 4), ((2, 2), GREAT))
        for names, test, limit, wanted in (
            (("x", "y"), Less("x", "y"), None, 2), (("y", "x"), Less("x", "y"), None, 7), (("x", "y"), Missing("x"), None, 4),
            (("y", "x"), Missing("x"), None, 0), (("x", "y"), Always(), None, GREAT + 13),
            (("x", "y"), Always(), Limit("x"), GREAT + 9), (("y", "x"), Always(), Limit("y", 3), 7),
            (("x", "y"), Always(), Limit("y", 2, 4), GREAT + 4), (("b", "a"), Same("a", "b"), Limit("b", 3, 2), 0),
        ):
            self.assertTrue(exactly(matches_of(lots, names, test, limit), wanted), (names, str(test)))
        self.assertEqual(matches_of(limit=Limit("x", 5), test=Always(), names=("x", "y"), lots=lots), 7)
        self.assertEqual(matches_of(Lots(), ("x",), Less("x", 3)), 0)

    def test_contents_of_small_heads(self):
        rng = random.Random(48)
        for head, test, limit in some_cases(60, 49):
            rows = rng.choice(all_contents(head))
            wanted = sum(does_match(head.names, test, limit, row) for row in rows)
            self.assertEqual(matches_of(lots_of(rows), head.names, test, limit), wanted)
            turned = [row[::-1] for row in rows]
            self.assertEqual(matches_of(lots_of(turned), head.names[::-1], test, limit), wanted)

    def test_missing_names(self):
        lots = Lots(((1, 5), 2))
        self.refuses(NoName("a"), matches_of, lots, ("x", "y"), Less("z", "a"), Limit("b"))
        self.refuses(NoName("z"), matches_of, lots, ("x", "y"), Less("x", "z"), Limit("b"))
        self.refuses(NoName("b"), matches_of, lots, ("x", "y"), Less("x", "y"), Limit("b"))
        self.refuses(NoName("x"), matches_of, Lots(), ("y",), Less("x", 3))

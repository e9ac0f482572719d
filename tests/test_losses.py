"""Tests of what readers lose: the loss on a table, the greatest loss of OpenFirst, and its paper."""

import random

from headskip.errors import BadQuestion, NoName
from headskip.filters import Always, AtMost, Less, Never, Same
from headskip.heads import Head
from headskip.losses import Loss, greatest_loss, loss, shows_loss
from headskip.lots import Lots
from headskip.needs import fewest
from headskip.questions import AtLeast, Greatest, Least, Many, Some, Top, Total
from headskip.readers import InOrder, MostFirst, OpenFirst, Reader, course
from headskip.shelves import Shelf, Table
from headskip.tolds import Blank, FullList, FullSpan, OpenSpan
from helpers import Case, exactly, odd_values, random_filter
from needs_rules import Known, table_of
from test_needs import SHELF, TABLE, check_table_errors, known_cases
from test_readers import READERS
from test_settled import small_shelf

GREAT = 10 ** 29
ALL = Always()
NINE = Head(5, x=FullSpan(0, 9), y=FullSpan(0, 1))


def loose_shelf(rng):
    """Any shelf of three blocks, of which little is sure."""
    tolds = (FullSpan(0, 1, False, False), OpenSpan(0, 1, False, False), FullSpan(0, 2, False, False), FullSpan(1, 2, False, False),
             FullSpan(0, 1, True, False), FullSpan(-1, 0, False, True), OpenSpan(1, 1))
    return Shelf(*[Head(rng.choice((1, 1, 2)), x=rng.choice(tolds)) for _ in range(3)])


class OnTables(Case):
    def test_against_course_and_fewest(self):
        found = {}
        for shelf, question, known in known_cases(40, 221):
            for blocks in list(known.answers)[::6]:
                table = table_of(blocks)
                for reader in READERS:
                    lost = loss(reader, shelf, question, table)
                    self.assertIs(type(lost), int)
                    reads = list(course(reader, shelf, question, table))
                    self.assertEqual(lost, len(reads) - len(fewest(shelf, question, table).reads))
                    self.assertGreaterEqual(lost, 0)
                    found[lost] = found.get(lost, 0) + 1
        self.assertGreater(min(found[0], found[1]), 20)

    def test_some_losses(self):
        for question, wanted in (
            (Some(Same("x", 5)), (0, 0, 1)), (Some(AtMost("x", 3)), (0, 0, 0)), (Many(Same("x", 5)), (0, 0, 0)), (Greatest("x", ALL), (0, 0, 0)),
        ):
            self.assertEqual(tuple(loss(reader, SHELF, question, TABLE) for reader in READERS), wanted, str(question))
        self.assertEqual(loss(table=TABLE, question=Many(ALL), shelf=SHELF, reader=InOrder()), 0)

    def test_errors(self):
        for reader in READERS:
            check_table_errors(self, lambda *parts, reader=reader: loss(reader, *parts))
        for value in odd_values():
            if not isinstance(value, Reader):
                self.refuses(BadQuestion("reader"), loss, value, SHELF, Greatest("z", ALL), value)


class OverAllTables(Case):
    def test_the_greatest_loss(self):
        rng = random.Random(222)
        found = {}
        for at in range(300):
            shelf = small_shelf(rng, 60) if at % 3 else loose_shelf(rng)
            names = list(shelf.names)
            test = random_filter(rng, names, [0, 1, 2], 3)
            column = rng.choice(names)
            for question in (Some(test), Greatest(column, test), Least(column, test)):
                known = Known(shelf, question)
                losses = [loss(OpenFirst(), shelf, question, table_of(blocks)) for blocks in known.answers]
                paper = greatest_loss(shelf, question)
                self.assertIs(type(paper), Loss)
                self.assertTrue(exactly(paper.number, max(losses)), (str(question), paper.number, max(losses)))
                self.assertIs(shelf.fits(paper.worst), True)
                self.assertEqual(loss(OpenFirst(), shelf, question, paper.worst), paper.number)
                self.assertIs(shows_loss(shelf, question, paper), True)
                found[paper.number] = found.get(paper.number, 0) + 1
                self.check_tables(shelf, question, known, losses, paper)
        self.assertGreater(min(found[0], found[1], found[2]), 12)

    def check_tables(self, shelf, question, known, losses, paper):
        """Any table with the greatest loss shows it, and no other one."""
        for blocks, lost in list(zip(known.answers, losses))[::7]:
            other = Loss(paper.number, table_of(blocks))
            self.assertIs(shows_loss(shelf, question, other), lost == paper.number)

    def test_some_shelves(self):
        bounds = Head(3, x=FullSpan(0, 9, False, False))
        sure = Head(3, x=FullSpan(0, 9))
        high = Head(1, x=FullSpan(0, 20, False, False))
        for heads, question, wanted in (
            ([bounds] * 4, Some(Same("x", 5)), 3), ([bounds, sure, bounds], Some(Same("x", 9)), 0), ([sure] * 3, Some(Same("x", 5)), 2),
            ([bounds] * 3, Some(Never()), 0), ([bounds] * 3, Some(ALL), 0), ([bounds], Some(Same("x", 5)), 0),
            ([bounds] * 6, Greatest("x", ALL), 5), ([bounds, sure, bounds], Greatest("x", ALL), 0),
            ([bounds, high, bounds, high, bounds], Greatest("x", ALL), 2), ([bounds, high, high, high, bounds, sure], Greatest("x", ALL), 2),
            ([bounds, high, bounds], Least("x", ALL), 2), ([bounds, sure, high], Least("x", ALL), 0),
            ([bounds, high, bounds, sure], Least("x", Less(0, "x")), 3), ([bounds] * 3, Greatest("x", Never()), 0),
            ([sure, sure], Greatest("x", Less("x", 9)), 1), ([Head(1, x=Blank())] * 3, Least("x", ALL), 0),
            ([Head(2, x=OpenSpan(1, 1, False, False))] * 3, Least("x", ALL), 2), ([Head(2, x=FullList(1, 2))] * 3, Greatest("x", ALL), 0),
        ):
            shelf = Shelf(*heads)
            paper = greatest_loss(shelf, question)
            self.assertTrue(exactly(paper.number, wanted), (str(question), paper.number))
            self.assertIs(shows_loss(shelf, question, paper), True)
            self.assertEqual(loss(OpenFirst(), shelf, question, paper.worst), wanted)

    def test_ends_that_meet_in_one_row(self):
        twins = Shelf(NINE, NINE, Head(4, x=FullSpan(0, 8), y=FullSpan(0, 0)))
        self.assertEqual(greatest_loss(twins, Greatest("x", Same("y", 0))).number, 1)
        self.assertEqual(greatest_loss(twins, Greatest("x", ALL)).number, 0)
        self.assertEqual(greatest_loss(twins, Least("x", Same("y", 1))).number, 1)

    def test_great_numbers_of_rows(self):
        shelf = Shelf(*[Head(GREAT, x=FullSpan(-GREAT, GREAT, False, False)) for _ in range(5)])
        for question in (Some(Less("x", 3)), Greatest("x", ALL), Least("x", ALL), Greatest("x", Same("x", 7))):
            paper = greatest_loss(shelf, question)
            self.assertEqual(paper.number, 4)
            self.assertEqual(list(course(OpenFirst(), shelf, question, paper.worst)), [0, 1, 2, 3, 4])
            self.assertIs(shows_loss(shelf, question, paper), True)


class Papers(Case):
    def test_bent_papers(self):
        twins = Shelf(NINE, NINE)
        question = Greatest("x", Same("y", 0))
        right = greatest_loss(twins, question)
        self.assertEqual(right.number, 1)
        block = right.worst[1]
        for number, worst in (
            (0, right.worst), (2, right.worst), (True, right.worst), (None, right.worst), ((1,), right.worst), (1, None), (1, Table(block)),
            (1, Table(block, block, block)), (1, Table(block, block)), (1, Table(Lots(), block)), (1, right.worst[0]), (0, Table(block, block)),
            (1, Table(Lots(((0, 0), 5)), Lots(((0, 0), 5)))), (1, [right.worst[0], right.worst[1]]),
        ):
            self.assertIs(shows_loss(twins, question, Loss(number, worst)), False, number)
        self.assertIs(shows_loss(twins, question, Loss(1, right.worst)), True)
        self.assertIs(shows_loss(paper=Loss(1, right.worst), question=question, shelf=twins), True)
        # No table shows a loss where there is none: any one that fits has the loss 0.
        self.assertIs(shows_loss(twins, Greatest("x", ALL), Loss(0, twins.sample())), True)
        self.assertIs(shows_loss(twins, Greatest("x", ALL), Loss(False, twins.sample())), False)

    def test_any_value(self):
        twins = Shelf(NINE, NINE)
        question = Greatest("x", Same("y", 0))
        right = greatest_loss(twins, question)
        for value in odd_values():
            self.assertIs(shows_loss(twins, question, value), False)
            self.assertIs(shows_loss(twins, question, Loss(1, value)), False)
            if not exactly(value, 1):
                self.assertIs(shows_loss(twins, question, Loss(value, right.worst)), False)

    def test_papers_keep_and_compare_any_values(self):
        for value in odd_values():
            paper = Loss(value, [value])
            self.assertTrue(exactly([paper.number, paper.worst], [value, [value]]))
            self.assertEqual(paper, Loss(worst=[value], number=value))
            self.assertIs(bool(paper), True)
            self.assertIs(Loss(1, 2) == value, False)
        self.assertEqual(Loss(1, 0), Loss(True, False))
        self.assertNotEqual(Loss(1, 0), Loss(1, 1))
        self.assertNotEqual(Loss(1, 0), Loss(0, 0))


class Errors(Case):
    def test_other_questions(self):
        test = Less("z", 5)
        for call in (greatest_loss, lambda shelf, question: shows_loss(shelf, question, None)):
            for value in [*odd_values(), Many(test), AtLeast(1, test), AtLeast(2, ALL), Total("x", test), Top(1, "x", ALL), "some where always"]:
                if not isinstance(value, (Some, Greatest, Least)):
                    self.refuses(BadQuestion("question"), call, SHELF, value)
            self.refuses(NoName("z"), call, SHELF, Some(test))
            self.refuses(NoName("y"), call, SHELF, Greatest("y", test))
            self.refuses(NoName("a"), call, SHELF, Least("z", Same("y", "a")))
        self.assertEqual(greatest_loss(question=Some(ALL), shelf=SHELF).number, 0)


class Readers(Case):
    def test_most_first_can_lose_where_open_first_does_not(self):
        shelf = Shelf(Head(2, x=FullSpan(0, 9, False, False)), Head(9, x=FullSpan(0, 8, False, False)))
        table = Table(Lots(((9,), 2)), Lots(((0,), 9)))
        question = Greatest("x", Less(2, "x"))
        self.assertEqual([loss(reader, shelf, question, table) for reader in (InOrder(), OpenFirst(), MostFirst())], [0, 0, 1])

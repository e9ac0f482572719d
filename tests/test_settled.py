"""Tests of settle: whether a question is settled behind some reads, and the papers that show it."""

import random

from headskip.counts import counts
from headskip.errors import BadQuestion, BadRead, BadShelf, NoName
from headskip.filters import Always, AtMost, Less, Missing, Never, Same
from headskip.heads import Head
from headskip.lots import Lots
from headskip.questions import AtLeast, Greatest, Least, Many, Question, Some, Top, Total
from headskip.settled import Settled, Unsettled, settle
from headskip.shelves import Shelf
from headskip.sums import Sums
from headskip.tolds import Blank, FullList, FullSpan, HoledSpan, OpenSpan
from brute import all_contents, all_tables, answer_on, lots_of, small_head
from helpers import Case, exactly, odd_values, random_filter
from settled_rules import notes_at, questions_over, rules_hold

GREAT = 10 ** 29
SHELF = Shelf(Head(2, x=FullSpan(3, 7)), Head(3, x=FullSpan(0, 9)))
READ = Lots(((0,), 1), ((2,), 1), ((9,), 1))
ALL = Always()


def small_shelf(rng, most=800):
    """Any shelf with few tables."""
    while True:
        names = rng.choice(("x", "x", "x", "xy"))
        numbers = (0, 1) if names == "xy" else rng.choice(((0, 1, 2), (0, 2, 4), (-1, 0, 1)))
        blocks = rng.randint(1, 4)
        shelf = Shelf(*[small_head(rng, names, numbers, rng.randint(1, 4 if blocks == 1 else 2)) for _ in range(blocks)])
        many = 1
        for head in shelf:
            many *= len(all_contents(head))
        if many <= most:
            return shelf


def some_cases(many, seed):
    """Shelves, questions and reads."""
    rng = random.Random(seed)
    for _ in range(many):
        shelf = small_shelf(rng)
        names = list(shelf.names)
        test = random_filter(rng, names, [0, 1, 2], 3)
        share = rng.choice((0, 0, 0.4, 0.7, 1))
        places = [at for at in range(len(shelf)) if rng.random() < share]
        reads = {at: lots_of(rng.choice(all_contents(shelf[at]))) for at in places}
        for question in questions_over(test, rng.choice(names), rng):
            yield shelf, question, reads


class AllTables(Case):
    def test_settled_or_open(self):
        found = {True: 0, False: 0}
        for shelf, question, reads in some_cases(500, 101):
            tables = all_tables(shelf, reads)
            answers = {answer_on(question, shelf.names, [row for rows in table for row in rows]) for table in tables}
            paper = settle(shelf, question, reads)
            found[bool(paper)] += 1
            if len(answers) == 1:
                self.check_settled(shelf, question, reads, paper, answers.pop())
            else:
                self.check_unsettled(shelf, question, reads, paper)
            self.assertEqual(paper, settle(reads=reads, question=question, shelf=shelf))
        self.assertGreater(min(found.values()), 200)

    def check_settled(self, shelf, question, reads, paper, answer):
        self.assertIs(type(paper), Settled, (str(question), reads))
        self.assertTrue(exactly(paper.answer, answer), (str(question), paper.answer, answer))
        self.assertIs(rules_hold(shelf, question, reads, paper), True, str(question))

    def check_unsettled(self, shelf, question, reads, paper):
        self.assertIs(type(paper), Unsettled, (str(question), reads))
        self.assertIn(paper.at, [at for at in range(len(shelf)) if at not in reads])
        for table in (paper.one, paper.other):
            self.assertIs(shelf.agrees(table, reads), True)
            self.assertLessEqual(len(table[paper.at]), len(shelf[paper.at].wanted) + 2)
        self.assertEqual(paper.one.with_block(paper.at, paper.other[paper.at]), paper.other)
        self.assertNotEqual(question(shelf, paper.one), question(shelf, paper.other))


class Answers(Case):
    def settled(self, question, reads, answer, shelf=SHELF):
        paper = settle(shelf, question, reads)
        self.assertIs(type(paper), Settled, str(question))
        self.assertTrue(exactly(paper.answer, answer), (str(question), paper.answer))
        self.assertIs(rules_hold(shelf, question, reads, paper), True)
        return paper

    def is_open(self, question, reads, shelf=SHELF):
        paper = settle(shelf, question, reads)
        self.assertIs(type(paper), Unsettled, str(question))
        self.assertNotIn(paper.at, reads)
        self.assertNotEqual(question(shelf, paper.one), question(shelf, paper.other))

    def test_each_kind_of_question(self):
        small = Less("x", 5)
        for question, answer in (
            (Some(small), True), (Some(Less("x", 0)), False), (Many(Less("x", 3)), None), (Many(AtMost("x", 9)), 5),
            (AtLeast(2, small), True), (AtLeast(4, small), False), (AtLeast(3, small), None), (AtLeast(5, ALL), True),
            (AtLeast(6, ALL), False), (Greatest("x", ALL), 9), (Least("x", ALL), 0), (Greatest("x", small), None),
            (Least("x", small), 0), (Total("x", ALL), None), (Top(1, "x", ALL), (9,)), (Top(2, "x", ALL), None),
        ):
            if answer is None:
                self.is_open(question, {})
            else:
                self.settled(question, {}, answer)
        self.settled(Greatest("x", Less("x", 0)), {}, None)
        self.settled(Least("x", Less("x", 0)), {}, None)
        self.settled(Top(3, "x", Less("x", 0)), {}, ())
        self.settled(Total("x", Less("x", 0)), {}, 0)

    def test_behind_reads(self):
        for question, answer in (
            (Many(Less("x", 5)), 3), (Total("x", ALL), 21), (Top(2, "x", ALL), (9, 7)), (Top(3, "x", ALL), (9, 7, 3)),
            (Top(4, "x", ALL), (9, 7, 3, 2)), (Greatest("x", Less("x", 9)), 7), (Greatest("x", Less("x", 5)), 3),
        ):
            self.settled(question, {1: READ}, answer)

    def test_all_blocks_read(self):
        reads = {1: READ, 0: Lots(((3,), 1), ((7,), 1))}
        rng = random.Random(102)
        for question in questions_over(Less("x", 8), "x", rng):
            paper = self.settled(question, reads, answer_on(question, ("x",), [(0,), (2,), (9,), (3,), (7,)]))
            self.assertEqual(paper.parts, ())

    def test_six_blocks(self):
        shelf = Shelf(*[Head(3, x=FullSpan(at, 9)) for at in range(6)])
        self.settled(Top(4, "x", ALL), {}, (9, 9, 9, 9), shelf)
        self.settled(Least("x", ALL), {}, 0, shelf)
        self.settled(AtLeast(12, Less("x", 9)), {}, False, Shelf(*[Head(2, x=FullSpan(at, 9)) for at in range(6)]))
        self.is_open(Many(Less("x", 9)), {0: Lots(((0,), 1), ((9,), 2))}, shelf)

    def test_nulls(self):
        shelf = Shelf(Head(2, x=HoledSpan(4, 9, False, True)), Head(3, x=Blank()), Head(1, x=OpenSpan(0, 4, False, False)))
        self.settled(Greatest("x", ALL), {}, 9, shelf)
        self.is_open(Least("x", ALL), {}, shelf)
        self.settled(Many(Missing("x")), {2: Lots(((None,), 1))}, 5, shelf)
        self.is_open(Top(2, "x", ALL), {}, shelf)
        self.settled(Top(2, "x", ALL), {2: Lots(((None,), 1))}, (9,), shelf)
        self.settled(Total("x", ALL), {2: Lots(((3,), 1))}, 12, shelf)

    def test_ends_that_meet_in_one_row(self):
        shelf = Shelf(Head(2, x=FullSpan(0, 9), y=FullSpan(0, 1)), Head(1, x=FullSpan(4, 4), y=FullSpan(0, 0)))
        self.is_open(Greatest("x", Same("y", 0)), {}, shelf)
        self.is_open(Total("x", Same("y", 0)), {}, shelf)
        self.settled(Many(Same("y", 0)), {}, 2, shelf)
        self.settled(Greatest("x", Same("y", 0)), {0: Lots(((0, 0), 1), ((9, 1), 1))}, 4, shelf)

    def test_great_numbers_of_rows(self):
        shelf = Shelf(Head(GREAT, x=FullSpan(-GREAT, GREAT), y=FullList(0, 1)), Head(GREAT, x=FullSpan(5, 5), y=OpenSpan(0, 1)))
        for question, answer in (
            (Some(Same("y", 0)), True), (AtLeast(GREAT + 1, Less("x", 6)), True), (AtLeast(2 * GREAT, Less("x", 6)), False),
            (AtLeast(2 * GREAT - 1, Less("x", 6)), None), (Many(ALL), 2 * GREAT), (Greatest("x", ALL), GREAT), (Least("x", ALL), -GREAT),
            (Top(2, "x", Less("x", 6)), (5, 5)), (Top(1, "x", ALL), (GREAT,)), (Top(2, "x", ALL), None), (Total("x", ALL), None),
            (Total("x", Same("x", 5)), None), (Total("x", Same("x", 5) & Missing("y")), None), (Total("x", Less(GREAT, "x")), 0),
        ):
            if answer is None:
                self.is_open(question, {}, shelf)
            else:
                self.settled(question, {}, answer, shelf)
        far = Lots(((-GREAT, 0), GREAT - 1), ((GREAT, 1), 1))
        self.assertEqual(settle(shelf, Total("x", ALL), {0: far}).answer, GREAT * (2 - GREAT) + 5 * GREAT)
        self.assertEqual(settle(shelf, Top(4, "x", ALL), {0: far}).answer, (GREAT, 5, 5, 5))

    def test_more_rows_than_wants_change_little(self):
        rng = random.Random(103)
        for _ in range(150):
            names = rng.choice(("x", "xy"))
            heads = [small_head(rng, names, (0, 1, 3), 9) for _ in range(rng.randint(1, 3))]
            test = random_filter(rng, list(names), [0, 1, 2], 3)
            for question in questions_over(test, "x", rng):
                papers = []
                for rows in (20, GREAT):
                    shelf = Shelf(*[Head.of(rows, {name: head[name] for name in head}) for head in heads])
                    papers.append(settle(shelf, question, {}))
                    self.assertTrue(not papers[-1] or rules_hold(shelf, question, {}, papers[-1]))
                self.assertIs(type(papers[0]), type(papers[1]), str(question))
                if papers[0] and not isinstance(question, (Many, Total)):
                    self.assertTrue(exactly(papers[0].answer, papers[1].answer))


class Parts(Case):
    def test_questions_without_a_column(self):
        for question in (Some(Less("x", 5)), AtLeast(2, Less("x", 5)), Many(ALL)):
            paper = settle(SHELF, question, {})
            self.assertEqual(paper.parts, ((0, notes_at(SHELF[0], question, [None])), (1, notes_at(SHELF[1], question, [None]))))

    def test_totals(self):
        paper = settle(SHELF, Total("x", ALL), {1: READ})
        right = Lots(((3,), 1), ((7,), 1))
        self.assertEqual(paper.parts, ((0, Sums(10, 10, right, right)),))

    def test_the_last_value_and_those_above(self):
        for question, reads, values in (
            (Greatest("x", ALL), {}, {0: [9, 10], 1: [9, 10]}), (Least("x", ALL), {}, {0: [-1, 0], 1: [-1, 0]}),
            (Top(2, "x", ALL), {1: READ}, {0: [7, 8]}), (Top(4, "x", ALL), {1: READ}, {0: [2, 3, 4, 7, 8]}),
            (Greatest("x", Less("x", 0)), {}, {0: [None], 1: [None]}), (Top(3, "x", ALL), {1: READ}, {0: [3, 4, 7, 8]}),
            (Top(4, "x", AtMost(5, "x")), {1: READ}, None),
        ):
            paper = settle(SHELF, question, reads)
            if values is None:
                self.assertEqual(paper.answer, (9, 7))
                values = {0: [7, 8, None]}
            self.assertEqual(paper.parts, tuple((at, notes_at(SHELF[at], question, told)) for at, told in values.items()), str(question))

    def test_counts_of_notes(self):
        shelf = Shelf(Head(5, x=FullList(1, 2, 3), y=FullSpan(0, 0)), Head(3, x=FullSpan(-4, 2), y=FullSpan(0, 1)))
        paper = settle(shelf, Top(1, "x", Same("y", 0)), {})
        self.assertEqual(paper.answer, (3,))
        for at, notes in paper.parts:
            for value, found, told in notes:
                self.assertTrue(exactly((found, told), notes_at(shelf[at], Top(1, "x", Same("y", 0)), [value])[0][1:]))
        self.assertEqual([value for value, _, _ in paper.parts[1][1]], [3, 4])


class Papers(Case):
    def test_truth(self):
        for value in odd_values():
            self.assertIs(bool(Settled(value, value)), True)
            self.assertIs(bool(Unsettled(value, value, value)), False)

    def test_papers_keep_and_compare_any_values(self):
        for value in odd_values():
            one, other = Settled(value, [value]), Unsettled(value, [value], None)
            self.assertTrue(exactly([one.answer, one.parts, other.at, other.one, other.other], [value, [value], value, [value], None]))
            self.assertEqual(one, Settled(parts=[value], answer=value))
            self.assertEqual(other, Unsettled(other=None, one=[value], at=value))
            self.assertIs(Settled(2, 3) == value, False)
            self.assertIs(Unsettled(2, 3, 4) == value, False)
        self.assertEqual(Settled(1, (0,)), Settled(True, (False,)))
        self.assertEqual(Unsettled(1, 0, 2), Unsettled(True, False, 2))
        for other in (Settled(2, 2), Settled(1, 3), Unsettled(1, 2, 3)):
            self.assertNotEqual(Settled(1, 2), other)
        for other in (Unsettled(0, 2, 3), Unsettled(1, 0, 3), Unsettled(1, 2, 0), Settled(1, 2)):
            self.assertNotEqual(Unsettled(1, 2, 3), other)


def check_errors(case, call):
    """The errors of settle, in their order, for any values in each place."""
    question = Greatest("y", Less("b", 3) | Less("z", 1))
    for value in odd_values():
        if not isinstance(value, Shelf):
            case.refuses(BadShelf("shelf"), call, value, value, value)
        if not isinstance(value, Question):
            case.refuses(BadQuestion("question"), call, SHELF, value, value)
        case.refuses(NoName("b"), call, SHELF, question, value)
        case.refuses(NoName("y"), call, SHELF, Total("y", Less("x", 3)), value)
        for asked in (Many(ALL), Top(2, "x", ALL)):
            if not isinstance(value, dict):
                case.refuses(BadRead(None), call, SHELF, asked, value)
            case.refuses(BadRead(0), call, SHELF, asked, {1: value, 0: value})
            case.refuses(BadRead(1), call, SHELF, asked, {1: value, 0: Lots(((3,), 1), ((7,), 1))})
    for key in (-1, 2, True, None, "0", (1,), 10 ** 59):
        case.refuses(BadRead(key), call, SHELF, Many(ALL), {0: 5, key: READ, "z": 3})
    case.refuses(BadRead(0), call, SHELF, Many(ALL), {1: READ, 0: READ})
    case.refuses(BadRead(1), call, SHELF, Many(ALL), {1: Lots(((0,), 1), ((9,), 1))})


class Errors(Case):
    def test_errors_in_their_order(self):
        check_errors(self, settle)

    def test_arguments_are_not_changed_and_not_kept(self):
        for question in questions_over(Less("x", 5), "x", random.Random(104)):
            reads = {1: READ}
            paper = settle(SHELF, question, reads)
            self.assertEqual(reads, {1: READ})
            again = settle(SHELF, question, {1: READ})
            reads[0] = Lots(((3,), 1), ((7,), 1))
            reads[1] = Lots()
            self.assertEqual(paper, again)

    def test_counts_that_part_decide(self):
        # Two rows match or none: whether one matches is not told, whether three do is.
        shelf = Shelf(Head(2, x=FullSpan(0, 1), y=FullSpan(0, 1)))
        self.assertEqual(counts(shelf[0], Same("x", "y")).ranges, ((0, 0), (2, 2)))
        self.assertFalse(settle(shelf, AtLeast(1, Same("x", "y")), {}))
        self.assertFalse(settle(shelf, AtLeast(2, Same("x", "y")), {}))
        self.assertIs(settle(shelf, AtLeast(3, Same("x", "y")), {}).answer, False)
        self.assertFalse(settle(shelf, Many(Never() | Same("x", "y")), {}))
        self.assertEqual(settle(shelf, Many(Same("x", "y")), {0: Lots(((0, 0), 1), ((1, 1), 1))}).answer, 2)

"""Tests of the functions that look at papers: right ones, bent ones, and any value."""

import random

from headskip.covers import Covers
from headskip.filters import Less, Never
from headskip.heads import Head
from headskip.kinds import Kinds
from headskip.look_settled import shows_settled, shows_unsettled
from headskip.lots import Lots
from headskip.questions import AtLeast, Greatest, Least, Many, Some, Top, Total
from headskip.settled import Settled, Unsettled, settle
from headskip.shelves import Shelf, Table
from headskip.sums import Sums, sums
from headskip.tolds import FullSpan, OpenSpan
from brute import all_tables, answer_on, lots_of
from helpers import Case, exactly, odd_values
from settled_rules import bent_notes, notes_at, questions_over, rules_hold, with_notes
from test_settled import ALL, GREAT, READ, SHELF, check_errors, some_cases

SMALL = Less("x", 5)
RIGHT = Lots(((3,), 1), ((7,), 1))
MANY = Many(Less("x", 5))


class RightPapers(Case):
    def test_what_settle_returns(self):
        for shelf, question, reads in some_cases(200, 111):
            paper = settle(shelf, question, reads)
            self.assertIs(shows_settled(shelf, question, reads, paper), bool(paper), str(question))
            self.assertIs(shows_unsettled(shelf, question, reads, paper), not paper, str(question))
            self.assertIs(shows_settled(paper=paper, reads=reads, question=question, shelf=shelf), bool(paper))

    def test_great_blocks(self):
        shelf = Shelf(Head(GREAT, x=FullSpan(-GREAT, GREAT)), Head(GREAT, x=OpenSpan(5, 6)))
        for question in questions_over(Less("x", 6), "x", random.Random(112)):
            for reads in ({}, {0: Lots(((-GREAT,), GREAT - 2), ((5,), 1), ((GREAT,), 1))}):
                paper = settle(shelf, question, reads)
                self.assertIs(shows_settled(shelf, question, reads, paper), bool(paper), str(question))
                self.assertIs(shows_unsettled(shelf, question, reads, paper), not paper, str(question))

    def test_values_where_nothing_changes(self):
        question = Top(4, "x", ALL)
        paper = settle(SHELF, question, {1: READ})
        self.assertEqual([note[0] for note in paper.parts[0][1]], [2, 3, 4, 7, 8])
        for values, wanted in (
            ([2, 3, 4, 7, 8, 9], True), ([2, 3, 4, 5, 7, 8], True), ([2, 3, 4, 6, 7, 8], True), ([2, 3, 4, 5, 6, 7, 8], True),
            ([2, 3, 4, 7, 8, 20, 21], True), ([2, 3, 4, 5, 6, 7, 8, 9, 10], True), ([2, 3, 4, 7, 8, 10], False), ([2, 3, 4, 8], False),
            ([2, 3, 4, 7], False), ([3, 4, 7, 8], False), ([2, 4, 7, 8], False), ([2, 3, 7, 8], False), ([2, 3, 4, 7, 8, None], False),
            ([1, 2, 3, 4, 7, 8], False), ([], False), ([2, 3], False), ([None], False), ([2, 3, 4, 5, 8], False),
        ):
            bent = with_notes(paper, 0, notes_at(SHELF[0], question, values))
            self.assertIs(shows_settled(SHELF, question, {1: READ}, bent), wanted, values)

    def test_values_where_nothing_changes_without_a_last_value(self):
        question = Top(3, "x", Less(2, "x"))
        paper = settle(Shelf(SHELF[0]), question, {})
        self.assertEqual((paper.answer, [note[0] for note in paper.parts[0][1]]), ((7, 3), [3, 4, 7, 8, None]))
        for values, wanted in (
            ([0, 1, 3, 4, 7, 8, None], True), ([2, 3, 4, 7, 8, None], True), ([3, 4, 5, 7, 8, None], True), ([3, 4, 7, 8], False),
            ([3, 4, 7, 8, 11, 12, None], True), ([3, 4, 7, None], False), ([3, 7, 8, None], False), ([None], False), ([1, 3, 4, 7, 8, None], False),
        ):
            bent = with_notes(paper, 0, notes_at(SHELF[0], question, values))
            self.assertIs(shows_settled(Shelf(SHELF[0]), question, {}, bent), wanted, values)

    def test_least_values_are_mirrored(self):
        paper = settle(SHELF, Least("x", ALL), {})
        for values, wanted in (([-1, 0], True), ([-2, -1, 0], True), ([-5, -4, -1, 0], True), ([0, 1], False), ([0], False), ([-1], False),
                               ([-1, 0, 1], False), ([-3, -1, 0], False), ([-1, 0, None], False), ([None], False)):
            bent = with_notes(paper, 1, notes_at(SHELF[1], Least("x", ALL), values))
            self.assertIs(shows_settled(SHELF, Least("x", ALL), {}, bent), wanted, values)


class BentSettled(Case):
    def test_other_values_and_other_answers(self):
        rng = random.Random(113)
        found = {True: 0, False: 0}
        for shelf, question, reads in some_cases(130, 114):
            paper = settle(shelf, question, reads)
            if not paper or question.asked is None or isinstance(question, Total):
                continue
            for _ in range(8):
                bent = paper
                for at, notes in paper.parts:
                    if rng.randrange(2):
                        bent = with_notes(bent, at, bent_notes(rng, shelf[at], question, notes))
                if rng.randrange(4) == 0:
                    bent = Settled(rng.choice((None, 0, 1, 2, (), (1,), (2, 1), (1, 2), (2, 2))), bent.parts)
                wanted = rules_hold(shelf, question, reads, bent)
                found[wanted] += 1
                self.assertIs(shows_settled(shelf, question, reads, bent), wanted, (str(question), bent.answer))
                self.assertTrue(not wanted or exactly(bent.answer, paper.answer))
        self.assertGreater(min(found.values()), 200)

    def test_notes_that_pass_over_values(self):
        rng = random.Random(118)
        found = 0
        for shelf, question, reads in some_cases(120, 119):
            if question.asked is None or isinstance(question, Total):
                continue
            step = -1 if isinstance(question, Least) else 1
            for _ in range(6):
                told = sorted(rng.sample(range(-1, 5), rng.randint(0, min(question.quota, 3))), reverse=step > 0)
                answer = tuple(told) if isinstance(question, Top) else told[0] if told else None
                last = told[-1] if len(told) == question.quota else None
                above = [value for value in told if value != last]
                values = ([None] if last is None else [last, last + step]) + [value + k for value in above for k in (0, step)]
                parts = tuple((at, notes_at(shelf[at], question, values)) for at in range(len(shelf)) if at not in reads)
                wanted = rules_hold(shelf, question, reads, Settled(answer, parts))
                found += wanted
                self.assertIs(shows_settled(shelf, question, reads, Settled(answer, parts)), wanted, (str(question), answer))
        self.assertGreater(found, 100)

    def test_one_rule_alone_does_not_hold(self):
        bound = Shelf(Head(3, x=FullSpan(0, 9, True, False)))
        free = Shelf(Head(3, x=OpenSpan(0, 9, False, False)))
        pair = Shelf(SHELF[0])
        for shelf, question, answer, values in (
            # The last value is not sure; those above it are not fixed; all are not fixed; one above it is passed over.
            (bound, Greatest("x", ALL), 9, [9, 10]), (bound, Greatest("x", ALL), 0, [0, 1]), (free, Greatest("x", ALL), None, [None]),
            (pair, Top(2, "x", ALL), (7, 2), [2, 3, 7, 8]), (pair, Top(2, "x", ALL), (2, 2), [2, 3]), (pair, Top(3, "x", ALL), (7,), [7, 8, None]),
            (pair, Top(3, "x", ALL), (3,), [3, 4, None]), (bound, Top(3, "x", ALL), (0, 0, 0), [0, 1]), (free, Top(2, "x", ALL), (), [None]),
            (bound, Least("x", ALL), 1, [0, 1]), (free, Least("x", ALL), 0, [-1, 0]), (pair, Least("x", ALL), 7, [6, 7]),
        ):
            paper = Settled(answer, ((0, notes_at(shelf[0], question, values)),))
            self.assertIs(shows_settled(shelf, question, {}, paper), False, (str(question), answer))
            self.assertIs(rules_hold(shelf, question, {}, paper), False)

    def test_sums_that_are_not_fixed(self):
        for shelf in (SHELF, Shelf(SHELF[1]), Shelf(Head(3, x=OpenSpan(0, 4)), SHELF[0])):
            found = [sums(head, ALL, "x") for head in shelf]
            for answer in (sum(told.least for told in found), sum(told.greatest for told in found)):
                self.assertIs(shows_settled(shelf, Total("x", ALL), {}, Settled(answer, tuple(enumerate(found)))), False)

    def test_papers_for_open_questions(self):
        for shelf, question, reads in some_cases(60, 115):
            if settle(shelf, question, reads) or isinstance(question, Total):
                continue
            unread = [at for at in range(len(shelf)) if at not in reads]
            values = [None] if question.asked is None else list(range(-3, 6))
            answers = {answer_on(question, shelf.names, [row for rows in table for row in rows]) for table in all_tables(shelf, reads)}
            for told in (values, [*values, None]):
                parts = tuple((at, notes_at(shelf[at], question, told)) for at in unread)
                for answer in answers:
                    self.assertIs(shows_settled(shelf, question, reads, Settled(answer, parts)), False, (str(question), answer))

    def test_other_answers(self):
        for question, answers in (
            (Some(SMALL), (False, 1, None, "True")), (Many(ALL), (4, 6, True, "5", None, (5,))), (AtLeast(6, ALL), (True, 0, None)),
            (Greatest("x", ALL), (8, 10, None, (9,), "9", True)), (Least("x", ALL), (1, -1, None, False, (0,))),
            (Top(1, "x", ALL), ((8,), (), 9, [9], (9, 9), None, ("9",), (10,))), (Total("x", Less("x", 0)), (False, 1, None, ())),
            (Greatest("x", Never()), (0, (), False, 9)), (Top(2, "x", Never()), (None, (1,), [], 0, (1, 1))),
        ):
            paper = settle(SHELF, question, {})
            self.assertIs(shows_settled(SHELF, question, {}, paper), True)
            for answer in answers:
                self.assertIs(shows_settled(SHELF, question, {}, Settled(answer, paper.parts)), False, (str(question), answer))

    def test_a_number_of_one_is_no_true(self):
        shelf = Shelf(Head(1, x=FullSpan(1, 1)))
        for question, wrong in ((Many(ALL), True), (Total("x", ALL), True), (Greatest("x", ALL), True), (Least("x", ALL), True),
                                (Top(1, "x", ALL), (True,)), (Some(ALL), 1), (AtLeast(1, ALL), 1), (AtLeast(2, ALL), 0)):
            paper = settle(shelf, question, {})
            self.assertEqual(paper.answer, wrong)
            self.assertIs(shows_settled(shelf, question, {}, paper), True)
            self.assertIs(shows_settled(shelf, question, {}, Settled(wrong, paper.parts)), False)

    def test_blocks_left_out_added_exchanged(self):
        for question in (Some(SMALL), Many(ALL), Greatest("x", ALL), Least("x", ALL), Top(1, "x", ALL), Total("x", Never())):
            paper = settle(SHELF, question, {})
            one, other = paper.parts
            for parts in ((), (one,), (other,), (other, one), (one, other, other), (one, one, other), [one, other], {0: one[1], 1: other[1]},
                          ((0, other[1]), (1, one[1])), ((False, one[1]), (True, other[1])), ([*one], other), (one, (*other, None)),
                          ((0,), other), (one, (2, other[1])), (one, other, (2, other[1])), ((-1, one[1]), other), (one[1], other[1])):
                right = parts == paper.parts and type(parts) is tuple and exactly([at for at, _ in parts], [0, 1])
                self.assertIs(shows_settled(SHELF, question, {}, Settled(paper.answer, parts)), right and rules_hold(
                    SHELF, question, {}, Settled(paper.answer, parts)), parts)
        paper = settle(SHELF, Many(ALL), {1: READ})
        more = settle(SHELF, Many(ALL), {})
        self.assertIs(shows_settled(SHELF, Many(ALL), {1: READ}, more), False)
        self.assertIs(shows_settled(SHELF, Many(ALL), {}, paper), False)

    def test_kinds_and_covers_that_are_not_the_block_s(self):
        for question in (Some(SMALL), Greatest("x", ALL), Least("x", ALL), Top(1, "x", ALL)):
            paper = settle(SHELF, question, {})
            for at, notes in paper.parts:
                for k, (value, found, told) in enumerate(notes):
                    for bent in self.bent_notes_of(value, found, told):
                        others = (*notes[:k], bent, *notes[k + 1:])
                        self.assertIs(shows_settled(SHELF, question, {}, with_notes(paper, at, others)), False, (str(question), value))

    def bent_notes_of(self, value, found, told):
        """Triples near to a right note."""
        yield [value, found, told]
        yield (value, found)
        yield (value, found, told, None)
        yield (value, told, found)
        yield (str(value), found, told)
        for wants, matching, others in (
            (found.wants[::-1], found.matching, found.others), (list(found.wants), found.matching, found.others),
            (found.wants, found.others, found.matching), (found.wants, (*found.matching, ()), found.others),
            (found.wants, found.matching, found.others[1:]), (found.wants, found.matching, list(found.others)),
        ):
            if (wants, matching, others) != (found.wants, found.matching, found.others):
                yield (value, Kinds(wants, matching, others), told)
        for matching, others in ((told.others, told.matching), (told.matching[:-1], told.others), (told.matching, (*told.others, 1)),
                                 ((False, *told.matching[1:]), told.others), (told.matching, (0, 0, *told.others[2:])),
                                 (list(told.matching), told.others)):
            if (matching, others) != (told.matching, told.others) or matching[0] is False:
                yield (value, found, Covers(matching, others))

    def test_notes_exchanged_doubled_left_out(self):
        for question in (Greatest("x", ALL), Least("x", ALL), Top(1, "x", ALL), Some(SMALL)):
            paper = settle(SHELF, question, {})
            for at, notes in paper.parts:
                for bent in (notes[1:], notes[:-1], (*notes, notes[-1]), (notes[0], *notes), list(notes), (), None, notes[::-1]):
                    wanted = bent == notes and type(bent) is tuple
                    self.assertIs(shows_settled(SHELF, question, {}, with_notes(paper, at, bent)), wanted, (str(question), at))

    def test_totals(self):
        question = Total("x", ALL)
        paper = settle(SHELF, question, {1: READ})
        self.assertEqual(paper, Settled(21, ((0, Sums(10, 10, RIGHT, RIGHT)),)))
        for answer, notes in ((20, paper.parts[0][1]), (21, Sums(10, 11, RIGHT, RIGHT)), (21, Sums(10, 10, RIGHT, READ)), (20, Sums(9, 9, RIGHT, RIGHT)),
                              (21, (10, 10, RIGHT, RIGHT)), (21, None), (21, notes_at(SHELF[0], Greatest("x", ALL), [None]))):
            self.assertIs(shows_settled(SHELF, question, {1: READ}, Settled(answer, ((0, notes),))), False)
        self.assertIs(shows_settled(SHELF, question, {}, Settled(21, ((0, Sums(10, 10, RIGHT, RIGHT)), (1, Sums(9, 18, READ, READ))))), False)

    def test_any_value(self):
        for question in (Some(SMALL), Many(ALL), AtLeast(5, ALL), Greatest("x", ALL), Least("x", ALL), Top(1, "x", ALL), Total("x", Never())):
            paper = settle(SHELF, question, {})
            one, other = paper.parts
            for value in odd_values():
                self.assertIs(shows_settled(SHELF, question, {}, value), False)
                self.assertIs(shows_settled(SHELF, question, {}, Settled(value, paper.parts)), exactly(value, paper.answer), value)
                for parts in (value, (value, other), (one, value), ((0, value), other), ((value, one[1]), other), (one, (1, (value,)))):
                    right = exactly(parts, paper.parts)
                    self.assertIs(shows_settled(SHELF, question, {}, Settled(paper.answer, parts)), right, (str(question), parts))
                for at, notes in paper.parts:
                    if not isinstance(question, Total):
                        told, found, numbers = notes[0]
                        for bent in ((value, found, numbers), (told, value, numbers), (told, found, value)):
                            if not exactly(bent, notes[0]):
                                self.assertIs(shows_settled(SHELF, question, {}, with_notes(paper, at, (bent, *notes[1:]))), False)

    def test_errors(self):
        check_errors(self, lambda shelf, question, reads: shows_settled(shelf, question, reads, "paper"))
        check_errors(self, lambda shelf, question, reads: shows_settled(shelf, question, reads, Settled(1, ())))


class BentUnsettled(Case):
    def test_all_pairs_of_tables(self):
        rng = random.Random(116)
        found = {True: 0, False: 0}
        for shelf, question, reads in some_cases(100, 117):
            tables = all_tables(shelf, reads)
            for _ in range(12):
                one, other = rng.choice(tables), rng.choice(tables)
                if rng.randrange(2):
                    k = rng.randrange(len(shelf))
                    other = (*one[:k], other[k], *one[k + 1:])
                unlike = [at for at in range(len(shelf)) if one[at] != other[at]]
                at = rng.choice(unlike) if unlike and rng.randrange(4) else rng.randrange(-1, len(shelf) + 1)
                answers = [answer_on(question, shelf.names, [row for rows in table for row in rows]) for table in (one, other)]
                wanted = 0 <= at < len(shelf) and set(unlike) <= {at} and answers[0] != answers[1]
                paper = Unsettled(at, Table(*map(lots_of, one)), Table(*map(lots_of, other)))
                found[wanted] += 1
                self.assertIs(shows_unsettled(shelf, question, reads, paper), wanted)
                self.assertIs(shows_settled(shelf, question, reads, paper), False)
        self.assertGreater(min(found.values()), 200)

    def test_bent_papers(self):
        few, much = Lots(((0,), 1), ((7,), 1), ((9,), 1)), Lots(((0,), 1), ((1,), 1), ((9,), 1))
        one, other = Table(RIGHT, few), Table(RIGHT, much)
        self.assertIs(shows_unsettled(SHELF, MANY, {}, Unsettled(1, one, other)), True)
        self.assertIs(shows_unsettled(SHELF, MANY, {0: RIGHT}, Unsettled(1, other, one)), True)
        self.assertIs(shows_unsettled(paper=Unsettled(1, one, other), reads={}, question=MANY, shelf=SHELF), True)
        wrong = Lots(((0,), 1), ((9,), 1))
        for paper, reads in (
            (Unsettled(0, one, other), {}), (Unsettled(True, one, other), {}), (Unsettled(2, one, other), {}), (Unsettled(-1, one, other), {}),
            (Unsettled(None, one, other), {}), (Unsettled(1, one, one), {}), (Unsettled(1, one, other), {1: few}),
            (Unsettled(1, one, other), {1: much}), (Unsettled(1, one, Table(RIGHT, READ.without((2,)) + Lots(((8,), 1)))), {}),
            (Unsettled(1, one, Table(RIGHT, wrong)), {}), (Unsettled(1, Table(RIGHT), other), {}), (Unsettled(1, one, Table(RIGHT, much, much)), {}),
            (Unsettled(1, one, (RIGHT, much)), {}), (Unsettled(1, RIGHT, much), {}), (Settled(1, (one, other)), {}),
        ):
            self.assertIs(shows_unsettled(SHELF, MANY, reads, paper), False)

    def test_any_value(self):
        found = settle(SHELF, MANY, {})
        self.assertIs(shows_unsettled(SHELF, MANY, {}, found), True)
        for value in odd_values():
            self.assertIs(shows_unsettled(SHELF, MANY, {}, value), False)
            self.assertIs(shows_unsettled(SHELF, MANY, {}, Unsettled(value, found.one, found.other)), exactly(value, found.at))
            self.assertIs(shows_unsettled(SHELF, MANY, {}, Unsettled(found.at, value, found.other)), False)
            self.assertIs(shows_unsettled(SHELF, MANY, {}, Unsettled(found.at, found.one, value)), False)

    def test_errors(self):
        check_errors(self, lambda shelf, question, reads: shows_unsettled(shelf, question, reads, "paper"))
        check_errors(self, lambda shelf, question, reads: shows_unsettled(shelf, question, reads, Unsettled(0, 1, 2)))

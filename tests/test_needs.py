"""Tests of what must be read of a table: musts, must, fewest, and the paper of fewest."""

import itertools
import random

from headskip.errors import BadTable, NoBlock, NoName
from headskip.filters import Always, AtMost, Less, Missing, Never, Same
from headskip.heads import Head
from headskip.lots import Lots
from headskip.look_settled import shows_unsettled
from headskip.needs import Fewest, fewest, must, musts, shows_fewest
from headskip.questions import AtLeast, Greatest, Least, Many, Some, Top, Total
from headskip.settled import Unsettled, settle
from headskip.shelves import Shelf, Table
from headskip.tolds import Blank, FullList, FullSpan, HoledSpan, OpenSpan
from helpers import Case, exactly, odd_values, random_filter
from needs_rules import Known, table_of
from settled_rules import questions_over
from test_settled import small_shelf

GREAT = 10 ** 29
ALL = Always()
SHELF = Shelf(Head(2, x=FullSpan(3, 7)), Head(3, x=FullSpan(0, 9)), Head(2, x=OpenSpan(0, 9, False, False)))
TABLE = Table(Lots(((3,), 1), ((7,), 1)), Lots(((0,), 1), ((5,), 1), ((9,), 1)), Lots(((9,), 1), ((None,), 1)))


def known_cases(many, seed, most=60):
    """Small shelves and questions, with all their tables."""
    rng = random.Random(seed)
    for _ in range(many):
        shelf = small_shelf(rng, most)
        names = list(shelf.names)
        test = random_filter(rng, names, [0, 1, 2], 3)
        for question in questions_over(test, rng.choice(names), rng):
            yield shelf, question, Known(shelf, question)


class AllTables(Case):
    def test_which_blocks_are_musts_and_how_few_settle(self):
        some = 0
        for shelf, question, known in known_cases(150, 201):
            settling = known.settling()
            for blocks in known.answers:
                table = table_of(blocks)
                sets = [places for places in settling if settling[places][tuple(blocks[at] for at in places)]]
                wanted = [at for at in range(len(shelf)) if all(at in places for places in sets)]
                self.assertTrue(exactly(musts(shelf, question, table), tuple(wanted)), str(question))
                self.check_must(shelf, question, table, wanted)
                found = fewest(shelf, question, table)
                self.assertIn(found.reads, sets)
                self.assertEqual(len(found.reads), min(len(places) for places in sets))
                self.assertTrue(set(wanted) <= set(found.reads))
                some += len(found.reads) > len(found.due)
        self.assertGreater(some, 300)

    def check_must(self, shelf, question, table, wanted):
        for at in range(len(shelf)):
            paper = must(shelf, question, table, at)
            if at not in wanted:
                self.assertIs(paper, None)
                continue
            self.assertIs(type(paper), Unsettled)
            self.assertEqual(paper.at, at)
            others = {k: table[k] for k in range(len(shelf)) if k != at}
            self.assertIs(shows_unsettled(shelf, question, others, paper), True)

    def test_due_lack_and_gains_are_as_the_words_tell(self):
        lacking, without = 0, 0
        for shelf, question, known in known_cases(150, 202):
            for blocks, answer in known.answers.items():
                table = table_of(blocks)
                found = fewest(shelf, question, table)
                self.assertIs(type(found), Fewest)
                wanted = known.due_lack_gains(blocks)
                self.assertTrue(exactly((found.due, found.lack, found.gains), wanted), (str(question), wanted, vars(found)))
                lacking += found.lack > 0
                without += found.lack > 0 and answer is False
        self.assertGreater(min(lacking, without), 100)

    def test_any_such_set_of_reads_is_shown(self):
        several = 0
        for shelf, question, known in known_cases(60, 203):
            for blocks in list(known.answers)[:12]:
                table = table_of(blocks)
                found = fewest(shelf, question, table)
                shown = []
                for many in range(len(shelf) + 1):
                    for reads in itertools.combinations(range(len(shelf)), many):
                        paper = Fewest(reads, found.due, found.lack, found.gains)
                        if shows_fewest(shelf, question, table, paper):
                            shown.append(reads)
                settling = known.settling()
                wanted = [places for places in settling if len(places) == len(found.reads)
                          and settling[places][tuple(blocks[at] for at in places)]]
                # What settles with so few blocks has what is due, and gains enough.
                self.assertEqual(shown, wanted, str(question))
                several += len(shown) > 1
        self.assertGreater(several, 10)


class Answers(Case):
    def needs(self, question, due, lack, gains, many, shelf=SHELF, table=TABLE):
        found = fewest(shelf, question, table)
        self.assertTrue(exactly((found.due, found.lack, found.gains), (due, lack, gains)), (str(question), vars(found)))
        self.assertEqual(len(found.reads), many, str(question))
        self.assertTrue(settle(shelf, question, {at: table[at] for at in found.reads}))
        self.assertIs(shows_fewest(shelf, question, table, found), True)

    def test_each_kind_of_question(self):
        for question, due, lack, gains, many in (
            (Some(Less("x", 3)), (), 0, (), 0), (Some(Same("x", 5)), (), 1, ((1, 1),), 1), (Some(Same("x", 8)), (), 3, ((2, 2), (1, 1)), 2),
            (Many(Less("x", 5)), (1, 2), 0, (), 2), (Many(ALL), (), 0, (), 0), (Total("x", ALL), (1, 2), 0, (), 2),
            (AtLeast(3, AtMost(7, "x")), (), 1, ((1, 2),), 1), (AtLeast(4, AtMost(7, "x")), (), 2, ((1, 1), (1, 2)), 2),
            (AtLeast(1, AtMost(7, "x")), (), 0, (), 0), (AtLeast(6, AtMost("x", 9)), (), 1, ((1, 2),), 1),
            (AtLeast(7, AtMost("x", 9)), (), 1, ((1, 2),), 1), (AtLeast(8, ALL), (), 0, (), 0),
            (Greatest("x", ALL), (), 0, (), 0), (Least("x", ALL), (), 0, (), 0), (Greatest("x", Less("x", 9)), (1, 2), 0, (), 2),
            (Top(2, "x", ALL), (), 1, ((1, 2),), 1), (Top(3, "x", ALL), (1, 2), 0, (), 2), (Top(1, "x", Less("x", 0)), (), 0, (), 0),
            (Top(4, "x", AtMost("x", 3)), (1, 2), 0, (), 2), (Greatest("x", Same("x", 8)), (1, 2), 0, (), 2),
            (Least("x", Less(3, "x")), (1, 2), 0, (), 2),
        ):
            self.needs(question, due, lack, gains, many)

    def test_gains_in_their_order(self):
        shelf = Shelf(*[Head(9, x=FullSpan(0, 9, False, False)) for _ in range(5)])
        table = Table(*[Lots(((0,), 9 - many), ((9,), many)) for many in (2, 5, 1, 5, 3)])
        gains = ((5, 1), (5, 3), (3, 4), (2, 0), (1, 2))
        for many, few in ((1, 1), (5, 1), (6, 2), (10, 2), (11, 3), (13, 3), (14, 4), (16, 5)):
            question = AtLeast(many, Same("x", 9))
            self.needs(question, (), many, gains, few, shelf, table)
        self.needs(AtLeast(17, Same("x", 9)), (), 29, ((8, 2), (7, 0), (6, 4), (4, 1), (4, 3)), 5, shelf, table)
        self.needs(AtLeast(45, Same("x", 9)), (), 1, ((8, 2), (7, 0), (6, 4), (4, 1), (4, 3)), 1, shelf, table)
        self.needs(AtLeast(30, Same("x", 9)), (), 16, ((8, 2), (7, 0), (6, 4), (4, 1), (4, 3)), 3, shelf, table)

    def test_due_and_lacking_together(self):
        # The second block could have more than 7; the third and the fourth have 7 where they need not.
        shelf = Shelf(Head(2, x=FullSpan(0, 7)), Head(2, x=FullSpan(7, 9, True, False)), Head(2, x=FullSpan(0, 7, True, False)),
                      Head(3, x=FullSpan(0, 7, True, False)))
        table = Table(Lots(((0,), 1), ((7,), 1)), Lots(((7,), 2)), Lots(((0,), 1), ((7,), 1)), Lots(((0,), 1), ((7,), 2)))
        self.needs(Greatest("x", ALL), (1,), 0, (), 1, shelf, table)
        self.needs(Top(3, "x", ALL), (1,), 0, (), 1, shelf, table)
        self.needs(Top(4, "x", ALL), (1,), 1, ((2, 3), (1, 2)), 2, shelf, table)
        question, found = Top(4, "x", ALL), fewest(shelf, Top(4, "x", ALL), table)
        for reads, wanted in (((1, 2), True), ((1, 3), True), ((0, 1), False), ((1,), False), ((1, 2, 3), False), ((2, 3), False)):
            self.assertIs(shows_fewest(shelf, question, table, Fewest(reads, found.due, found.lack, found.gains)), wanted)
        mirrored = Shelf(*[Head.of(head.rows, {"x": -head["x"]}) for head in shelf])
        turned = Table(*[Lots(*[((-row[0],), times) for row, times in lots]) for lots in table])
        self.needs(Least("x", ALL), (1,), 0, (), 1, mirrored, turned)

    def test_nulls_and_two_columns(self):
        shelf = Shelf(Head(2, x=HoledSpan(4, 9, False, False)), Head(1, x=Blank()), Head(2, x=OpenSpan(0, 9)))
        table = Table(Lots(((9,), 1), ((None,), 1)), Lots(((None,), 1)), Lots(((0,), 1), ((9,), 1)))
        self.needs(Many(Missing("x")), (0,), 0, (), 1, shelf, table)
        self.needs(Greatest("x", ALL), (), 0, (), 0, shelf, table)
        self.needs(Top(2, "x", ALL), (), 1, ((1, 0),), 1, shelf, table)
        self.needs(Top(4, "x", ALL), (0,), 0, (), 1, shelf, table)
        two = Shelf(Head(2, x=FullSpan(0, 9), y=FullSpan(0, 1)), Head(1, x=FullSpan(4, 4), y=FullList(0)))
        met = Table(Lots(((0, 0), 1), ((9, 1), 1)), Lots(((4, 0), 1)))
        self.needs(Greatest("x", Same("y", 0)), (0,), 0, (), 1, two, met)
        self.needs(Many(Same("y", 0)), (), 0, (), 0, two, met)

    def test_great_numbers_of_rows(self):
        shelf = Shelf(Head(GREAT, x=FullSpan(0, GREAT)), Head(GREAT, x=FullSpan(0, 5)), Head(3, x=FullSpan(5, 5)))
        table = Table(Lots(((0,), 1), ((5,), GREAT - 2), ((GREAT,), 1)), Lots(((0,), 4), ((5,), GREAT - 4)), Lots(((5,), 3)))
        five, most = AtMost(5, "x"), 2 * GREAT - 2
        self.needs(AtLeast(most, five), (), most - 5, ((GREAT - 2, 0), (GREAT - 5, 1)), 2, shelf, table)
        self.needs(AtLeast(most - 3, five), (), most - 8, ((GREAT - 2, 0), (GREAT - 5, 1)), 2, shelf, table)
        self.needs(AtLeast(GREAT, five), (), GREAT - 5, ((GREAT - 2, 0), (GREAT - 5, 1)), 1, shelf, table)
        self.needs(AtLeast(2 * GREAT, five), (), 2, ((3, 1),), 1, shelf, table)
        self.needs(Total("x", ALL), (0, 1), 0, (), 2, shelf, table)
        self.needs(Top(4, "x", ALL), (0,), 0, (), 1, shelf, table)
        self.assertEqual(musts(shelf, Total("x", ALL), table), (0, 1))
        self.assertEqual(must(shelf, Total("x", ALL), table, 2), None)
        self.assertEqual(must(shelf, Total("x", ALL), table, 0).at, 0)

    def test_one_block_and_six(self):
        one, lots = Shelf(Head(3, x=FullSpan(0, 9))), Table(Lots(((0,), 1), ((4,), 1), ((9,), 1)))
        self.assertEqual(musts(one, Total("x", ALL), lots), (0,))
        self.needs(Some(Same("x", 4)), (), 1, ((1, 0),), 1, one, lots)
        six = Shelf(*[Head(3, x=FullSpan(0, 9)) for _ in range(6)])
        table = Table(*[Lots(((0,), 1), ((9,), 2)) for _ in range(6)])
        self.assertEqual(musts(six, Many(Same("x", 9)), table), (0, 1, 2, 3, 4, 5))
        self.needs(AtLeast(8, Same("x", 9)), (), 2, tuple((1, at) for at in range(6)), 2, six, table)
        self.assertEqual(musts(six, AtLeast(8, Same("x", 9)), table), ())
        self.assertEqual(musts(six, AtLeast(12, Same("x", 9)), table), (0, 1, 2, 3, 4, 5))
        self.assertEqual(musts(six, Some(Never()), table), ())


class Papers(Case):
    def test_bent_papers(self):
        question = AtLeast(8, AtMost(4, "x"))
        shelf = Shelf(*[Head(5, x=FullSpan(0, 9)) for _ in range(3)])
        table = Table(*[Lots(((0,), 4 - many), ((4,), many), ((9,), 1)) for many in (2, 3, 1)])
        right = fewest(shelf, question, table)
        self.assertTrue(exactly(list(vars(right).values()), [(0, 1), (), 5, ((3, 1), (2, 0), (1, 2))]))
        parts = dict(vars(right))
        for name, values in (
            ("reads", ((), (1,), (1, 0), (0, 0, 1), [0, 1], (0, 3), (1, 2), (0, 2), (0, 1, 2), (1, -1), None)),
            ("due", ((0,), [], None, (1,), ((),))), ("lack", (right.lack + 1, right.lack - 1, True, None, -1, (right.lack,))),
            ("gains", (right.gains[1:], right.gains[::-1], list(right.gains), tuple(list(pair) for pair in right.gains), (), None,
                       (*right.gains, (0, 2)))),
        ):
            for value in values:
                self.assertNotEqual(value, parts[name])
                self.assertIs(shows_fewest(shelf, question, table, Fewest(**{**parts, name: value})), False, (name, value))
        self.assertIs(shows_fewest(shelf, question, table, Fewest(**parts)), True)

    def test_kinds_count(self):
        shelf, table = Shelf(Head(2, x=FullSpan(0, 1)), Head(2, x=FullSpan(0, 1, True, False))), None
        table = Table(Lots(((0,), 1), ((1,), 1)), Lots(((0,), 1), ((1,), 1)))
        question = AtLeast(2, Same("x", 1))
        right = Fewest((1,), (), 1, ((1, 1),))
        self.assertEqual(fewest(shelf, question, table), right)
        for bent in (Fewest((True,), (), 1, ((1, 1),)), Fewest((1,), (), True, ((1, 1),)), Fewest((1,), (), 1, ((True, 1),)),
                     Fewest((1,), (), 1, ((1, True),))):
            self.assertEqual(bent, right)
            self.assertIs(shows_fewest(shelf, question, table, bent), False)
        due = fewest(SHELF, Many(Less("x", 5)), TABLE)
        self.assertEqual(due, Fewest((1, 2), (1, 2), False, ()))
        for bent in (Fewest((1, 2), (1, 2), False, ()), Fewest((True, 2), (1, 2), 0, ()), Fewest((1, 2), (True, 2), 0, ()),
                     Fewest([1, 2], (1, 2), 0, ()), Fewest((1, 2), [1, 2], 0, ()), Fewest((1, 2), (1, 2), 0, [])):
            self.assertIs(shows_fewest(SHELF, Many(Less("x", 5)), TABLE, bent), False)

    def test_any_value(self):
        for value in odd_values():
            for question in (Many(Less("x", 5)), AtLeast(4, AtMost(7, "x")), Greatest("x", ALL)):
                self.assertIs(shows_fewest(SHELF, question, TABLE, value), False)
                right = fewest(SHELF, question, TABLE)
                for name in ("reads", "due", "lack", "gains"):
                    if not exactly(value, getattr(right, name)):
                        bent = Fewest(**{**vars(right), name: value})
                        self.assertIs(shows_fewest(SHELF, question, TABLE, bent), False, (name, value))

    def test_papers_keep_and_compare_any_values(self):
        for value in odd_values():
            paper = Fewest(value, [value], (value,), None)
            self.assertTrue(exactly([paper.reads, paper.due, paper.lack, paper.gains], [value, [value], (value,), None]))
            self.assertEqual(paper, Fewest(gains=None, lack=(value,), due=[value], reads=value))
            self.assertIs(bool(paper), True)
            self.assertIs(Fewest(1, 2, 3, 4) == value, False)
        self.assertEqual(Fewest(1, 0, (True,), 4), Fewest(True, False, (1,), 4))
        for other in (Fewest(0, 2, 3, 4), Fewest(1, 0, 3, 4), Fewest(1, 2, 0, 4), Fewest(1, 2, 3, 0)):
            self.assertNotEqual(Fewest(1, 2, 3, 4), other)


def check_table_errors(case, call):
    """The errors of a question on a table, in their order, for any values as the table."""
    lacks = Greatest("y", Less("b", 3) | Less("z", 1))
    for value in odd_values():
        case.refuses(NoName("b"), call, SHELF, lacks, value)
        case.refuses(NoName("y"), call, SHELF, Total("y", Less("x", 3)), value)
        for question in (Many(Less("x", 5)), Top(2, "x", ALL), Some(Never())):
            case.refuses(BadTable(None), call, SHELF, question, value)
    for table in (Table(TABLE[0]), Table(*list(TABLE), TABLE[0])):
        case.refuses(BadTable(None), call, SHELF, Many(ALL), table)
    for at in range(3):
        case.refuses(BadTable(at), call, SHELF, Many(ALL), TABLE.with_block(at, Lots()))
        case.refuses(BadTable(0), call, SHELF, Many(ALL), TABLE.with_block(at, Lots()).with_block(0, Lots(((4,), 2))))


class Errors(Case):
    def test_errors_in_their_order(self):
        for call in (musts, fewest, lambda shelf, question, table: shows_fewest(shelf, question, table, None),
                     lambda shelf, question, table: must(shelf, question, table, "z")):
            check_table_errors(self, call)

    def test_no_block(self):
        for value in odd_values():
            if type(value) is not int or not 0 <= value < 3:
                self.refuses(NoBlock(value), must, SHELF, Many(ALL), TABLE, value)
        for value in (3, -1, True, 10 ** 59):
            self.refuses(NoBlock(value), must, SHELF, Many(ALL), TABLE, value)

    def test_arguments_by_name(self):
        named = {"table": TABLE, "question": Many(Less("x", 5)), "shelf": SHELF}
        self.assertEqual(musts(**named), (1, 2))
        self.assertEqual(must(at=0, **named), None)
        self.assertEqual(must(at=1, **named).at, 1)
        self.assertEqual(fewest(**named), Fewest((1, 2), (1, 2), 0, ()))
        self.assertIs(shows_fewest(paper=fewest(**named), **named), True)

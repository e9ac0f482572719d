"""Tests of the readers: their words, what each one reads next, and their courses on tables."""

from headskip.errors import BadQuestion, BadText
from headskip.filters import Always, AtMost, Less, Missing, Never, Same
from headskip.heads import Head
from headskip.lots import Lots
from headskip.questions import AtLeast, Greatest, Least, Many, Some, Top, Total
from headskip.readers import InOrder, MostFirst, OpenFirst, Reader, course
from headskip.settled import settle
from headskip.shelves import Shelf
from headskip.tolds import FullSpan, OpenSpan
from brute import lots_of
from helpers import Case, odd_values
from needs_rules import table_of
from test_needs import SHELF, TABLE, check_table_errors, known_cases
from test_settled import check_errors

GREAT = 10 ** 29
ALL = Always()
READERS = (InOrder(), OpenFirst(), MostFirst())
TEXTS = ("in order", "open first", "most first")


def wanted_next(reader, known, settled, reads):
    """What a reader reads next, by the words of the document; reads has the places that were read."""
    if settled:
        return None
    question = known.question
    loose = [at for at in range(len(known.contents)) if at not in reads and known.loose(at) is not None]
    if isinstance(reader, OpenFirst) and isinstance(question, (Greatest, Top)):
        return max(loose, key=lambda at: (known.loose(at), -at))
    if isinstance(reader, OpenFirst) and isinstance(question, Least):
        return min(loose, key=lambda at: (known.loose(at), at))
    if isinstance(reader, MostFirst):
        return max(loose, key=lambda at: (known.spread(at), -at))
    return min(loose)


class Words(Case):
    def test_words_and_texts(self):
        self.assertEqual((InOrder.WORD, OpenFirst.WORD, MostFirst.WORD), TEXTS)
        for reader, text in zip(READERS, TEXTS):
            self.assertEqual((reader.WORD, str(reader)), (text, text))
            self.assertIs(type(Reader.read(text)), type(reader))
            self.assertIs(type(InOrder.read(text=text)), type(reader))
            self.assertIsInstance(reader, Reader)
            self.assertEqual(type(reader).__bases__, (Reader,))

    def test_equal(self):
        for at, one in enumerate(READERS):
            for k, other in enumerate((InOrder(), OpenFirst(), MostFirst())):
                self.assertIs(one == other, at == k)
                self.assertIs(one != other, at != k)
            for value in [*odd_values(), str(one)]:
                if not isinstance(value, Reader):
                    self.assertIs(one == value, False)

    def test_words_that_cannot_stand(self):
        for text, word in (
            ("", 0), ("in", 1), ("order", 0), ("first", 0), ("open", 1), ("most", 1), ("in first", 1), ("open order", 1), ("most order", 1),
            ("In order", 0), ("in Order", 1), (" in order", 0), ("in  order", 1), ("in order ", 2), ("open first first", 2),
            ("most first open first", 2), ("in\norder", 0), ("in order\n", 1), ("openfirst", 0),
        ):
            self.unreadable(Reader.read, text, word)
        self.check_texts(Reader.read, TEXTS, ("in", "order", "open", "first", "most", "", "x", "null"), BadText)

    def test_any_other_value(self):
        for value in odd_values():
            self.unreadable(Reader.read, value, 0)


class Next(Case):
    def test_behind_none_some_and_all_reads(self):
        told = {None: 0, "some": 0}
        for shelf, question, known in known_cases(110, 211):
            settling = known.settling()
            spread = list(known.answers)[::max(1, len(known.answers) // 4)]
            for places, settled in settling.items():
                for blocks in spread:
                    reads = {at: lots_of(blocks[at]) for at in places}
                    for reader in READERS:
                        wanted = wanted_next(reader, known, settled[tuple(blocks[at] for at in places)], places)
                        found = reader(shelf, question, reads)
                        self.assertIs(type(found), type(wanted))
                        self.assertEqual(found, wanted, (str(reader), str(question), places))
                        told[None if wanted is None else "some"] += 1
        self.assertGreater(min(told.values()), 2000)

    def check_next(self, shelf, question, reads, wanted):
        self.assertEqual(tuple(reader(shelf, question, reads) for reader in READERS), wanted, str(question))

    def test_each_kind_of_question(self):
        none = (None, None, None)
        ends = Shelf(Head(4, x=FullSpan(0, 7)), Head(9, x=FullSpan(0, 8)), Head(5, x=FullSpan(-1, 9)), Head(3, x=FullSpan(-1, 9)))
        five = Same("x", 5)
        for question, wanted in (
            (Some(five), (0, 0, 1)), (Some(Same("x", 9)), none), (Many(five), (0, 0, 1)), (Many(ALL), none),
            (Many(Less(7, "x")), (1, 1, 1)), (AtLeast(4, Less("x", 3)), none), (AtLeast(5, Less("x", 3)), (0, 0, 1)),
            (Greatest("x", ALL), none), (Greatest("x", Less("x", 9)), none), (Greatest("x", Less("x", 7)), (0, 0, 1)),
            (Least("x", ALL), none), (Least("x", Less(0, "x")), (0, 0, 1)), (Top(2, "x", ALL), none), (Top(3, "x", ALL), (0, 2, 0)),
            (Total("x", ALL), (0, 0, 1)), (Total("x", Less("x", 8)), (0, 0, 1)),
        ):
            self.check_next(ends, question, {}, wanted)
        bounds = Shelf(Head(2, x=FullSpan(1, 4, False, False)), Head(2, x=FullSpan(0, 9, False, False)), Head(6, x=FullSpan(0, 9, False, False)))
        two = Less(2, "x")
        for question, wanted in (
            (Greatest("x", ALL), (0, 1, 0)), (Greatest("x", two), (0, 1, 2)), (Greatest("x", Less("x", 4)), (0, 0, 2)),
            (Least("x", ALL), (0, 1, 0)), (Least("x", Less("x", 2)), (0, 1, 2)), (Least("x", two), (0, 0, 2)),
            (Top(3, "x", ALL), (0, 1, 0)), (Top(1, "x", two), (0, 1, 2)), (Top(4, "x", AtMost("x", 3)), (0, 0, 2)),
            (Total("x", ALL), (0, 0, 2)), (Many(two), (0, 0, 2)), (Some(two), (0, 0, 2)), (AtLeast(10, two), (0, 0, 2)),
            (AtLeast(11, two), none),
        ):
            self.check_next(bounds, question, {}, wanted)

    def test_behind_reads(self):
        bounds = Shelf(Head(2, x=FullSpan(1, 4, False, False)), Head(2, x=FullSpan(0, 9, False, False)), Head(6, x=FullSpan(0, 9, False, False)))
        low, high, most = Lots(((1,), 2)), Lots(((0,), 1), ((9,), 1)), Lots(((8,), 5), ((3,), 1))
        for question, reads, wanted in (
            (Greatest("x", ALL), {1: Lots(((5,), 2))}, (0, 2, 0)), (Greatest("x", ALL), {1: high}, (None, None, None)),
            (Greatest("x", ALL), {2: most}, (0, 1, 0)), (Greatest("x", ALL), {0: low, 2: most}, (1, 1, 1)),
            (Greatest("x", ALL), {2: most, 1: low}, (None, None, None)), (Top(2, "x", ALL), {1: high}, (0, 2, 0)),
            (Top(2, "x", ALL), {1: high, 2: most}, (None, None, None)), (Least("x", ALL), {1: low}, (0, 2, 0)),
            (Least("x", ALL), {1: high}, (None, None, None)), (Many(Less(2, "x")), {2: most}, (0, 0, 0)), (Many(Less(2, "x")), {0: low}, (1, 1, 2)),
            (Total("x", ALL), {0: low, 1: high, 2: most}, (None, None, None)), (Some(Same("x", 9)), {1: high}, (None, None, None)),
            (Some(Same("x", 9)), {2: most}, (1, 1, 1)),
        ):
            self.check_next(bounds, question, reads, wanted)

    def test_what_is_loose_can_be_settled_otherwise(self):
        shelf = Shelf(Head(3, x=FullSpan(0, 9)), Head(3, x=OpenSpan(0, 8)), Head(2, x=FullSpan(0, 1)))
        self.assertTrue(settle(shelf, Greatest("x", ALL), {}))
        self.check_next(shelf, Greatest("x", ALL), {}, (None, None, None))
        self.check_next(shelf, Top(2, "x", ALL), {}, (0, 0, 0))
        # 9 and 8 are there in any case, and 7 is below them: the second block is loose, but the question is settled.
        self.check_next(shelf, Top(2, "x", ALL), {0: Lots(((0,), 1), ((5,), 1), ((9,), 1))}, (None, None, None))
        self.check_next(shelf, Top(3, "x", ALL), {0: Lots(((0,), 1), ((5,), 1), ((9,), 1))}, (1, 1, 1))
        self.check_next(shelf, Top(4, "x", AtMost("x", 4)), {0: Lots(((0,), 1), ((5,), 1), ((9,), 1))}, (1, 1, 1))

    def test_great_numbers_of_rows(self):
        shelf = Shelf(Head(7, x=FullSpan(0, GREAT)), Head(GREAT, x=FullSpan(0, 9)), Head(GREAT + 1, x=FullSpan(0, 9)))
        for question, wanted in ((Many(Less("x", 5)), (0, 0, 2)), (Total("x", ALL), (0, 0, 2)), (Top(2, "x", ALL), (0, 0, 0))):
            self.check_next(shelf, question, {}, wanted)
        far = Lots(((0,), 1), ((GREAT,), 6))
        self.check_next(shelf, Top(2, "x", ALL), {0: far}, (None, None, None))
        self.check_next(shelf, Total("x", ALL), {0: far}, (1, 1, 2))


class Course(Case):
    def test_until_the_question_is_settled(self):
        lengths = {}
        for shelf, question, known in known_cases(60, 212):
            for blocks in list(known.answers)[::5]:
                table = table_of(blocks)
                for reader in READERS:
                    found = list(course(reader, shelf, question, table))
                    self.assertEqual(found, list(course(table=table, question=question, shelf=shelf, reader=reader)))
                    reads = {}
                    for at in found:
                        self.assertFalse(settle(shelf, question, reads))
                        self.assertEqual(reader(shelf, question, reads), at)
                        reads[at] = table[at]
                    self.assertEqual(settle(shelf, question, reads).answer, known.answers[blocks])
                    self.assertEqual(len(set(found)), len(found))
                    lengths[len(found)] = lengths.get(len(found), 0) + 1
        self.assertGreater(min(lengths[0], lengths[1], lengths[2]), 50)

    def test_what_is_read_first(self):
        self.assertEqual([list(course(reader, SHELF, Greatest("x", ALL), TABLE)) for reader in READERS], [[], [], []])
        self.assertEqual([list(course(reader, SHELF, Many(Same("x", 5)), TABLE)) for reader in READERS], [[1, 2], [1, 2], [2, 1]])
        self.assertEqual([list(course(reader, SHELF, Some(Same("x", 5)), TABLE)) for reader in READERS], [[1], [1], [2, 1]])
        self.assertEqual([list(course(reader, SHELF, Some(Missing("x")), TABLE)) for reader in READERS], [[2]] * 3)
        self.assertEqual([list(course(reader, SHELF, Some(Never()), TABLE)) for reader in READERS], [[]] * 3)


class Errors(Case):
    def test_as_settle(self):
        for reader in READERS:
            check_errors(self, reader)
            self.assertEqual(reader(reads={}, question=Many(ALL), shelf=SHELF), None)

    def test_of_course(self):
        for reader in READERS:
            check_table_errors(self, lambda *parts, reader=reader: list(course(reader, *parts)))
        for value in odd_values():
            if not isinstance(value, Reader):
                for question in (Many(ALL), Greatest("z", ALL)):
                    self.refuses(BadQuestion("reader"), lambda: next(course(value, SHELF, question, value)))

    def test_arguments_are_not_changed(self):
        reads = {2: TABLE[2]}
        for reader in READERS:
            self.assertEqual(reader(SHELF, Many(Same("x", 5)), reads), 1)
            self.assertEqual(reads, {2: TABLE[2]})

"""Tests of the contents of blocks."""

from headskip.errors import BadFilter, BadLots, BadRow, NoName, TooMany
from headskip.filters import Always, Among, Less, Missing, Never, Same
from headskip.lots import Lots
from helpers import Case, exactly, odd_values

GREAT = 10 ** 29
VOCABULARY = ("1", "-2", "3", "0", "null", "none", "*", ";", "-", "", "05", "x", "**")
FORTY = tuple(((k, None), k + 1) for k in range(40))


def is_row(value):
    return type(value) is tuple and 1 <= len(value) <= 3 and all(part is None or type(part) is int for part in value)


def is_pair(value):
    return type(value) is tuple and len(value) == 2 and is_row(value[0]) and type(value[1]) is int and value[1] > 0


class Making(Case):
    def test_pairs_are_joined_and_ordered(self):
        lots = Lots(((3, None), 2), ((None, 1), 5), ((1, 4), 1), ((3, -4), 1), ((3, None), GREAT), ((None, None), 1))
        pairs = [((1, 4), 1), ((3, -4), 1), ((3, None), GREAT + 2), ((None, 1), 5), ((None, None), 1)]
        self.assertTrue(exactly(list(lots), pairs))
        self.assertTrue(exactly((lots.rows, lots.width, len(lots)), (GREAT + 10, 2, 5)))
        self.assertTrue(exactly((Lots().rows, Lots().width, len(Lots()), list(Lots())), (0, 0, 0, [])))
        self.assertFalse(Lots())
        self.assertTrue(lots)

    def test_refusals(self):
        for value in odd_values():
            if not is_pair(value):
                self.refuses(BadLots(0), Lots, value)
                self.refuses(BadLots(2), Lots, ((1,), 1), ((1,), 2), value, ((1, 2), 1))
            if not is_row(value):
                self.refuses(BadLots(1), Lots, ((1,), 1), (value, 1))
            if type(value) is not int or value < 1:
                self.refuses(BadLots(1), Lots, ((1,), 1), ((1,), value))
        for pair in (((1, 2), 1), ((), 1), ((1, 2, 3, 4), 1), ([1], 1), [(1,), 1], ((1,), 0), ((1,), 1, 1), ((1,),)):
            self.refuses(BadLots(1), Lots, ((1,), 1), pair)
        self.refuses(BadLots(41), Lots, *FORTY, ((41, 1), 1), ((1,), 1))

    def test_forty_unlike_rows(self):
        self.assertEqual(len(Lots(*FORTY, ((0, None), 4), ((7, None), 4))), 40)
        self.refuses(TooMany("pairs", 40), Lots, *FORTY, ((0, 0), 1))

    def test_of(self):
        self.assertEqual(Lots.of([(3,), (1,), (3,)]), Lots(((1,), 1), ((3,), 2)))
        self.assertEqual(Lots.of(((None, 4, 5),)), Lots(((None, 4, 5), 1)))
        self.assertEqual((Lots.of([]), Lots.of(rows=())), (Lots(), Lots()))
        self.assertEqual(Lots.of([row for row, _ in FORTY] * 3), Lots(*[(row, 3) for row, _ in FORTY]))

    def test_of_refusals(self):
        for value in odd_values():
            if not isinstance(value, (list, tuple)):
                self.refuses(BadLots("rows"), Lots.of, value)
            if not is_row(value) or len(value) != 2:
                self.refuses(BadLots(2), Lots.of, [(1, 2), (1, 2), value, None])
        self.refuses(TooMany("pairs", 40), Lots.of, [(k,) for k in range(41)])

    def test_arguments_are_not_changed_and_not_kept(self):
        rows = [(3,), (1,)]
        lots = Lots.of(rows)
        self.assertEqual(rows, [(3,), (1,)])
        rows.append((5,))
        self.assertEqual(lots, Lots(((1,), 1), ((3,), 1)))


class Rows(Case):
    def setUp(self):
        self.lots = Lots(((3, None), 2), ((1, 4), 1), ((1, None), GREAT))

    def test_times(self):
        self.assertEqual([self.lots.times(row) for row in ((3, None), (1, 4), (1, None), (4, 1))], [2, 1, GREAT, 0])
        for value in odd_values():
            self.assertTrue(exactly(self.lots.times(value), 0))
        ones = Lots(((1,), 4), ((None,), 2))
        for row, times in (((True,), 0), ([1], 0), ((1, 1), 0), ((1,), 4), ((None,), 2), (1, 0), (None, 0)):
            self.assertTrue(exactly(ones.times(row), times))
        self.assertEqual(Lots().times(()), 0)

    def test_plus(self):
        other = Lots(((3, None), 5), ((2, 2), 1))
        self.assertEqual(self.lots + other, Lots(((1, 4), 1), ((1, None), GREAT), ((2, 2), 1), ((3, None), 7)))
        self.assertEqual(self.lots + Lots(), self.lots)
        self.assertEqual(Lots() + self.lots, self.lots)
        self.assertEqual(Lots() + Lots(), Lots())
        self.assertEqual((self.lots + other).rows, GREAT + 9)

    def test_plus_refusals(self):
        for value in odd_values():
            if not isinstance(value, Lots):
                self.refuses(BadLots("with"), lambda: self.lots + value)
                self.refuses(BadLots("with"), lambda: Lots() + value)
        self.refuses(BadLots("width"), lambda: self.lots + Lots(((1,), 1)))
        self.refuses(BadLots("width"), lambda: Lots(*FORTY) + Lots(((1,), 1)))
        self.refuses(TooMany("pairs", 40), lambda: Lots(*FORTY) + self.lots)
        self.assertEqual(len(Lots(*FORTY) + Lots(*FORTY)), 40)

    def test_without(self):
        self.assertEqual(self.lots.without((3, None)), Lots(((3, None), 1), ((1, 4), 1), ((1, None), GREAT)))
        self.assertEqual(self.lots.without((3, None), 2), Lots(((1, 4), 1), ((1, None), GREAT)))
        self.assertEqual(self.lots.without(times=GREAT, row=(1, None)), Lots(((3, None), 2), ((1, 4), 1)))
        self.assertEqual(Lots(((1,), 3)).without((1,), 3), Lots())
        self.assertEqual(self.lots.times((3, None)), 2)

    def test_without_refusals(self):
        for value in odd_values():
            if type(value) is not int or value < 1:
                self.refuses(BadRow("times"), self.lots.without, (3, None), value)
                self.refuses(BadRow("times"), self.lots.without, "row", value)
            self.refuses(BadRow("row"), self.lots.without, value)
            self.refuses(BadRow("row"), self.lots.without, value, GREAT)
        self.refuses(BadRow("row"), self.lots.without, (3, None), 3)
        self.refuses(BadRow("row"), Lots(((1,), 1)).without, (True,))

    def test_tally(self):
        lots = self.lots + Lots(((-3, 4), 5), ((None, 0), 1))
        self.assertTrue(exactly(lots.tally(0), {-3: 5, 1: GREAT + 1, 3: 2, None: 1}))
        self.assertTrue(exactly(lots.tally(k=1), {0: 1, 4: 6, None: GREAT + 2}))
        lots.tally(0)[1] = 7
        self.assertEqual(lots.tally(0)[1], GREAT + 1)
        for value in (*odd_values(), 2, -1):
            if type(value) is not int or value not in (0, 1):
                self.refuses(BadLots("column"), lots.tally, value)
            self.refuses(BadLots("column"), Lots().tally, value)

    def test_equal(self):
        self.assertIs(Lots(((1,), 2)) == Lots(((1,), 1), ((1,), 1)), True)
        for other in (Lots(), Lots(((1,), 1)), Lots(((2,), 2)), Lots(((None,), 2)), Lots(((1, 1), 2))):
            self.assertIs(Lots(((1,), 2)) == other, False)
            self.assertIs(Lots(((1,), 2)) != other, True)
        for value in odd_values():
            self.assertIs(Lots(((7,), 1)) == value, False)


class Where(Case):
    def setUp(self):
        self.lots = Lots(((3, None), 2), ((1, 4), 1), ((4, 1), 7), ((None, 0), 3))

    def test_where(self):
        for test, names, wanted in (
            (Less("x", 3), ("x", "y"), [((1, 4), 1)]), (Less("x", 3), ("y", "x"), [((4, 1), 7), ((None, 0), 3)]),
            (Less("x", "y"), ("x", "y"), [((1, 4), 1)]), (Less("x", "y"), ("y", "x"), [((4, 1), 7)]),
            (Missing("y"), ("x", "y"), [((3, None), 2)]), (Always(), ("b", "a"), list(self.lots)),
            (~Less("x", 3), ("x", "y"), [((3, None), 2), ((4, 1), 7)]), (Never(), ("x", "y"), []),
            (~Among("x", 1, 3) | Same("y", 0), ("x", "y"), [((4, 1), 7), ((None, 0), 3)]),
        ):
            self.assertEqual(self.lots.where(test, *names), Lots(*wanted))
        self.assertEqual(Lots().where(Less("x", 3), "x", "y", "z", "a", "b"), Lots())
        self.assertEqual(Lots().where(Always()), Lots())

    def test_refusals(self):
        for value in odd_values():
            if not isinstance(value, (Less, Always)):
                self.refuses(BadFilter("test"), self.lots.where, value, "x", "x")
            if value not in ("x", "y", "low"):
                self.refuses(BadLots("names"), self.lots.where, Less("z", 3), value, "x")
                self.refuses(BadLots("names"), self.lots.where, Less("z", 3), "x", value)
                self.refuses(BadLots("names"), Lots().where, Less("z", 3), "x", "y", value)
        for names in ((), ("x",), ("x", "x"), ("x", "y", "z")):
            self.refuses(BadLots("names"), self.lots.where, Less("z", 3), *names)
        self.refuses(BadLots("names"), Lots().where, Always(), "x", "y", "x")
        self.refuses(NoName("y"), self.lots.where, Less("z", "y"), "a", "b")
        self.refuses(NoName("z"), self.lots.where, Less("z", "y"), "y", "b")
        self.refuses(NoName("x"), Lots().where, Less("x", 3))


class Texts(Case):
    def test_texts(self):
        for lots, text in (
            (Lots(), "-"), (Lots(((3,), 1)), "3 * 1"), (Lots(((None, None, -4), GREAT)), f"null null -4 * {GREAT}"),
            (Lots(((3, None), 2), ((1, 4), 1), ((3, 0), 1)), "1 4 * 1 ; 3 0 * 1 ; 3 null * 2"),
            (Lots(((None,), 2), ((-GREAT,), 1)), f"{-GREAT} * 1 ; null * 2"),
        ):
            self.assertEqual(str(lots), text)
            self.assertEqual(Lots.read(text), lots)
        self.assertEqual(Lots.read(str(Lots(*FORTY))), Lots(*FORTY))

    def test_words_that_cannot_stand(self):
        for text, word in (
            ("", 0), ("*", 0), ("x", 0), ("05 * 1", 0), ("- ", 1), ("- 3", 1), ("3", 1), ("3 ", 1), ("3 ;", 1), ("3 x", 1),
            ("3 *", 2), ("3 * 0", 2), ("3 * -1", 2), ("3 * 01", 2), ("3 * x", 2), ("3 * null", 2), ("3 * 1 *", 3),
            ("3 * 1 ", 3), ("3 * 1 4", 3), ("3 * 1 ;", 4), ("3 * 1 ; 3", 4), ("3 * 1 ; 1 * 2", 4), ("3 * 1 ; x", 4),
            ("3 * 1 ; 4 4", 5), ("3 * 1 ; null 4", 5), ("null * 1 ;", 4), ("null * 1 ; null", 4), ("null * 1 ; 9", 4),
            ("1 2 3", 3), ("1 2 3 4", 3), ("1 2 3 null", 3), ("1 2 * 1 ; 1 2", 6), ("1 2 * 1 ; 1 1", 6),
            ("1 2 * 1 ; 1", 6), ("1 2 * 1 ; 1 *", 6), ("1 2 * 1 ; 2 *", 6), ("1 2 * 1 ; 0", 5), ("1 null * 1 ; 1 9", 6),
            ("1 null * 1 ; 1 null", 6), ("null 2 * 1 ; 5", 5), ("null 2 * 1 ; null 3 * 1 ; null 3", 11),
            ("null null * 1 ; null null", 6), ("null null * 1 ; null", 6), ("1 2 * 1 ; 2 0 3", 7), ("3 * 1\n; 4 * 1", 2),
        ):
            self.unreadable(Lots.read, text, word)

    def test_what_is_no_text(self):
        for value in odd_values():
            self.unreadable(Lots.read, value, 1 if value in ("- ~", "null") else 0)

    def test_forty_one_rows_are_refused_as_the_class_does(self):
        text = " ; ".join(f"{k} * 1" for k in range(41))
        self.refuses(TooMany("pairs", 40), Lots.read, text)
        self.unreadable(Lots.read, text + " ;", 41 * 4)

    def test_bent_texts(self):
        texts = ["-", "1 * 3", "null null -2 * 1", "1 3 * 1 ; 1 null * 3 ; 3 -2 * 1 ; null 1 * 1",
                 "-2 * 1 ; 1 * 1 ; null * 3", "1 1 1 * 1 ; 1 1 3 * 1 ; 1 null -2 * 3"]
        self.check_texts(Lots.read, texts, VOCABULARY)

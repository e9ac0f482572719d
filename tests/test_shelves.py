"""Tests of shelves and of tables."""

import random

from headskip.errors import BadHead, BadRead, BadShelf, BadTable, NoBlock, TooMany
from headskip.heads import Head
from headskip.lots import Lots
from headskip.shelves import Shelf, Table
from headskip.tolds import Blank, FullList, FullSpan, HoledSpan
from brute import all_contents, lots_of, small_head
from helpers import Case, exactly, odd_values

HEADS = [Head(rows, x=FullSpan(0, rows)) for rows in range(2, 8)]
PAIR = Head(2, x=FullSpan(0, 1), y=Blank())
SHELF = Shelf(Head(2, x=FullSpan(3, 7)), Head(1, x=FullSpan(5, 5)), Head(3, x=HoledSpan(0, 9, False, False)))
BLOCKS = [Lots(((3,), 1), ((7,), 1)), Lots(((5,), 1)), Lots(((0,), 1), ((4,), 1), ((None,), 1))]
TABLE = Table(*BLOCKS)


def indexes(value, many):
    """Whether any value is an index of one of so many."""
    return type(value) is int and 0 <= value < many


class Shelves(Case):
    def test_one_to_six_blocks(self):
        for many in range(1, 7):
            shelf = Shelf(*HEADS[:many])
            self.assertEqual((len(shelf), list(shelf), shelf.names), (many, HEADS[:many], ("x",)))
            self.assertEqual([shelf[at] for at in range(many)], HEADS[:many])
            self.assertTrue(shelf)
        self.assertTrue(exactly(Shelf(PAIR).names, ("x", "y")))

    def test_refusals(self):
        self.refuses(BadShelf(0), Shelf)
        for value in odd_values():
            if not isinstance(value, Head):
                self.refuses(BadShelf(0), Shelf, value)
                self.refuses(BadShelf(0), Shelf, value, PAIR, HEADS[0])
                self.refuses(BadShelf(2), Shelf, *HEADS[:2], value, PAIR)
                self.refuses(BadShelf(7), Shelf, *HEADS, HEADS[0], value)
        self.refuses(BadShelf(1), Shelf, HEADS[0], PAIR, HEADS[1])
        self.refuses(BadShelf(1), Shelf, PAIR, HEADS[1])
        self.refuses(BadShelf(2), Shelf, HEADS[0], HEADS[1], Head(2, y=FullSpan(0, 1)))
        self.refuses(TooMany("blocks", 6), Shelf, *HEADS, HEADS[0])
        self.refuses(BadShelf(6), Shelf, *HEADS, PAIR)

    def test_index(self):
        for value in odd_values():
            if not indexes(value, 3):
                self.refuses(NoBlock(value), lambda: SHELF[value])
        for value in (-1, 3, 10 ** 29, True, "0"):
            self.refuses(NoBlock(value), lambda: SHELF[value])
        self.assertEqual(SHELF[2].rows, 3)

    def test_equal(self):
        self.assertEqual(SHELF, Shelf(*list(SHELF)))
        for other in (Shelf(*HEADS[:3]), Shelf(SHELF[0], SHELF[1]), Shelf(SHELF[1], SHELF[0], SHELF[2])):
            self.assertNotEqual(SHELF, other)
        for value in [*odd_values(), list(SHELF), tuple(SHELF)]:
            self.assertIs(SHELF == value, False)

    def test_plus(self):
        one, other = Shelf(*HEADS[:2]), Shelf(*HEADS[2:6])
        self.assertEqual(list(one + other), HEADS)
        self.assertEqual(list(other + one), HEADS[2:] + HEADS[:2])
        for value in odd_values():
            if not isinstance(value, Shelf):
                self.refuses(BadShelf("with"), lambda: one + value)
        self.refuses(BadShelf(2), lambda: one + Shelf(PAIR))
        self.refuses(BadShelf(4), lambda: Shelf(*HEADS[:4]) + Shelf(*[PAIR] * 6))
        self.refuses(TooMany("blocks", 6), lambda: Shelf(*HEADS[:3]) + other)

    def test_with_head(self):
        shelf = Shelf(*HEADS[:3])
        self.assertEqual(list(shelf.with_head(1, HEADS[5])), [HEADS[0], HEADS[5], HEADS[2]])
        self.assertEqual(list(shelf.with_head(head=HEADS[5], at=2)), [HEADS[0], HEADS[1], HEADS[5]])
        self.assertEqual(Shelf(HEADS[0]).with_head(0, PAIR), Shelf(PAIR))
        for value in odd_values():
            if not indexes(value, 3):
                self.refuses(NoBlock(value), shelf.with_head, value, value)
            if not isinstance(value, Head):
                for at in range(3):
                    self.refuses(BadShelf(at), shelf.with_head, at, value)
        self.refuses(BadShelf(1), shelf.with_head, 0, PAIR)
        self.refuses(BadShelf(2), shelf.with_head, 2, PAIR)

    def test_with_merged(self):
        shelf = Shelf(*HEADS[:4])
        for at in range(3):
            merged = shelf.with_merged(at=at)
            self.assertEqual(list(merged), [*HEADS[:at], HEADS[at] | HEADS[at + 1], *HEADS[at + 2:4]])
        for value in [*odd_values(), 3, 4, -1]:
            if not indexes(value, 3):
                self.refuses(NoBlock(value), shelf.with_merged, value)
        self.refuses(NoBlock(0), Shelf(PAIR).with_merged, 0)
        lists = [Head(9, x=FullList(*range(at, at + 5))) for at in (0, 5)]
        self.assertEqual(str(Shelf(*lists).with_merged(0)[0]), "18 ; x 0 to 9")
        wide = [Head(5, x=FullList(*range(at, at + 4)), y=FullList(*range(at, at + 4))) for at in (0, 2)]
        self.refuses(TooMany("wants", 9), Shelf(*wide).with_merged, 0)

    def test_merged_blocks_fit(self):
        rng = random.Random(71)
        for _ in range(60):
            shelf = Shelf(*[small_head(rng, "x") for _ in range(3)])
            blocks = [lots_of(rng.choice(all_contents(head))) for head in shelf]
            self.assertIs(shelf.with_merged(1).fits(Table(blocks[0], blocks[1] + blocks[2])), True)


class Fitting(Case):
    def test_fits(self):
        self.assertIs(SHELF.fits(TABLE), True)
        for at, lots in ((0, BLOCKS[1]), (1, Lots(((6,), 1))), (2, Lots(((0,), 3))), (0, Lots()), (1, Lots(((5, 5), 1)))):
            self.assertIs(SHELF.fits(TABLE.with_block(at, lots)), False)
        for table in (Table(*BLOCKS[:2]), Table(*BLOCKS, BLOCKS[0]), Table(*BLOCKS[::-1])):
            self.assertIs(SHELF.fits(table=table), False)
        for value in [*odd_values(), BLOCKS, tuple(BLOCKS)]:
            self.assertIs(SHELF.fits(value), False)

    def test_all_tables_of_small_shelves(self):
        rng = random.Random(72)
        for _ in range(60):
            shelf = Shelf(*[small_head(rng, "x") for _ in range(2)])
            fitting = [[lots_of(rows) for rows in all_contents(head)] for head in shelf]
            pool = [lots_of(rows) for head in (*shelf, small_head(rng, "x")) for rows in all_contents(head)]
            for _ in range(30):
                one, other = rng.choice(pool), rng.choice(pool)
                self.assertIs(shelf.fits(Table(one, other)), one in fitting[0] and other in fitting[1])

    def test_sample(self):
        rng = random.Random(73)
        for _ in range(100):
            shelf = Shelf(*[small_head(rng, "xy") for _ in range(rng.randint(1, 6))])
            self.assertIs(shelf.fits(shelf.sample()), True)
            self.assertEqual(shelf.sample(), shelf.sample())

    def test_read_at(self):
        found = SHELF.read_at(TABLE, 2, 0, 2)
        self.assertTrue(exactly(found, {0: BLOCKS[0], 2: BLOCKS[2]}))
        self.assertTrue(exactly(SHELF.read_at(TABLE, 2, 1, 0), dict(enumerate(BLOCKS))))
        self.assertEqual(SHELF.read_at(TABLE), {})
        found.clear()
        self.assertEqual(list(SHELF.read_at(TABLE, 2, 0)), [0, 2])

    def test_read_at_refusals(self):
        for value in odd_values():
            self.refuses(BadTable("table"), SHELF.read_at, value, value)
            if not indexes(value, 3):
                self.refuses(NoBlock(value), SHELF.read_at, TABLE, value)
                self.refuses(NoBlock(value), SHELF.read_at, TABLE, 2, value, 9)
        self.refuses(BadTable("table"), SHELF.read_at, TABLE.with_block(0, BLOCKS[1]), 9)
        self.refuses(BadTable("table"), SHELF.read_at, Table(*BLOCKS[:2]))
        self.refuses(NoBlock(-1), SHELF.read_at, TABLE, 0, -1, 3)
        self.refuses(NoBlock(3), SHELF.read_at, TABLE, 3, True)

    def test_agrees(self):
        other = Lots(((3,), 1), ((5,), 1), ((None,), 1))
        for reads, wanted in (({}, True), ({0: BLOCKS[0]}, True), (dict(enumerate(BLOCKS)), True), ({2: other}, False),
                              ({0: BLOCKS[0], 2: other}, False), ({2: BLOCKS[2], 1: BLOCKS[1]}, True)):
            self.assertIs(SHELF.agrees(TABLE, reads), wanted)
            for value in [*odd_values(), TABLE.with_block(1, BLOCKS[0]), Table(*BLOCKS[:2])]:
                self.assertIs(SHELF.agrees(value, reads), False)
        self.assertIs(SHELF.agrees(reads={2: other}, table=TABLE.with_block(2, other)), True)

    def test_agrees_refusals(self):
        for table in (TABLE, "table", None):
            for value in odd_values():
                if not isinstance(value, dict):
                    self.refuses(BadRead(None), SHELF.agrees, table, value)
                self.refuses(BadRead(1), SHELF.agrees, table, {2: value, 1: value})
            for key in (-1, 3, True, "0", None, (0,), 10 ** 59):
                self.refuses(BadRead(key), SHELF.agrees, table, {0: 5, key: BLOCKS[0], "z": 3})
            self.refuses(BadRead(0), SHELF.agrees, table, {2: BLOCKS[0], 1: BLOCKS[1], 0: BLOCKS[1]})
            self.refuses(BadRead(2), SHELF.agrees, table, {2: BLOCKS[0], 1: BLOCKS[1], 0: BLOCKS[0]})

    def test_reads_are_not_changed(self):
        reads = {2: BLOCKS[2], 0: BLOCKS[0]}
        SHELF.agrees(TABLE, reads)
        self.assertEqual(list(reads.items()), [(2, BLOCKS[2]), (0, BLOCKS[0])])


class Tightest(Case):
    def test_of(self):
        self.assertEqual(Shelf.of(TABLE, "x"), Shelf(*[Head.around(lots, ["x"]) for lots in BLOCKS]))
        wide = Table(Lots(((1, None), 2)), Lots(((4, 0), 1), ((2, 3), 5)))
        self.assertEqual([str(head) for head in Shelf.of(wide, "a", "b")], ["2 ; a 1 to 1 ; b blank", "6 ; a 2 to 4 ; b 0 to 3"])
        self.assertIs(Shelf.of(wide, "a", "b").fits(wide), True)

    def test_refusals(self):
        for value in odd_values():
            if not isinstance(value, Table):
                self.refuses(BadTable("table"), Shelf.of, value, value)
            if value not in ("x", "y", "low"):
                self.refuses(BadHead("names"), Shelf.of, TABLE, value)
        for names in ((), ("x", "y"), ("y", "x"), ("x", "x"), ("X",), (["x"],)):
            self.refuses(BadHead("names"), Shelf.of, TABLE, *names)
        self.refuses(BadHead("lots"), Shelf.of, Table(Lots(), BLOCKS[0]), "X")
        self.refuses(BadHead("names"), Shelf.of, Table(BLOCKS[0], Lots()), "X")
        self.refuses(BadHead("lots"), Shelf.of, Table(BLOCKS[0], Lots()), "x")
        self.refuses(BadHead("names"), Shelf.of, Table(BLOCKS[0], Lots(((1, 2), 1))), "x")


class Tables(Case):
    def test_one_to_six_blocks(self):
        pool = [*BLOCKS, Lots(), Lots(((1, 2), 1)), BLOCKS[0]]
        for many in range(1, 7):
            table = Table(*pool[:many])
            self.assertEqual((len(table), list(table)), (many, pool[:many]))
            self.assertEqual([table[at] for at in range(many)], pool[:many])
            self.assertTrue(table)

    def test_refusals(self):
        self.refuses(BadTable(0), Table)
        for value in odd_values():
            if not isinstance(value, Lots):
                self.refuses(BadTable(0), Table, value)
                self.refuses(BadTable(2), Table, *BLOCKS[:2], value, 5)
                self.refuses(BadTable(6), Table, *BLOCKS, *BLOCKS, value)
        self.refuses(TooMany("blocks", 6), Table, *BLOCKS, *BLOCKS, Lots())

    def test_index(self):
        for value in [*odd_values(), -1, 3]:
            if not indexes(value, 3):
                self.refuses(NoBlock(value), lambda: TABLE[value])
                self.refuses(NoBlock(value), TABLE.with_block, value, value)

    def test_with_block(self):
        self.assertEqual(list(TABLE.with_block(1, Lots())), [BLOCKS[0], Lots(), BLOCKS[2]])
        self.assertEqual(TABLE.with_block(lots=BLOCKS[2], at=2), TABLE)
        for value in odd_values():
            if not isinstance(value, Lots):
                for at in range(3):
                    self.refuses(BadTable(at), TABLE.with_block, at, value)
        self.assertEqual(list(TABLE), BLOCKS)

    def test_equal(self):
        self.assertEqual(TABLE, Table(*BLOCKS))
        for other in (Table(*BLOCKS[:2]), Table(*BLOCKS[::-1]), Table(*BLOCKS, Lots())):
            self.assertNotEqual(TABLE, other)
        for value in [*odd_values(), BLOCKS, tuple(BLOCKS), BLOCKS[0]]:
            self.assertIs(TABLE == value, False)
        self.assertIs(Table(Lots()) == Lots(), False)

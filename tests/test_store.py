"""Tests of stores: their deeds against plain lists of rows, refusals, what is taken back, and trials."""

import random

from headskip.errors import BadBook, BadHead, BadLots, BadRow, BadUpkeep, NoBlock, NoChange, SkipError, TooMany
from headskip.heads import Head
from headskip.lots import Lots
from headskip.shelves import Shelf, Table
from headskip.store import Store
from headskip.tolds import Blank, FullSpan, HoledSpan, OpenSpan
from headskip.upkeep import Upkeep
from helpers import Case, exactly, odd_values
from store_model import Model, Refused, odd_deed, random_deed
from upkeep_rules import RULES, random_book

GREAT = 10 ** 29
PLAIN = Upkeep()
LOOKING = Upkeep(**{rule: "look" for rule in RULES})


def store_with(*blocks, upkeep=PLAIN, names=("x",)):
    """A store with blocks of rows; a row of one column can be told by its value."""
    store = Store(upkeep, *names)
    for at, rows in enumerate(blocks):
        for row in rows:
            store.put(at, row if isinstance(row, tuple) else (row,))
    return store


def state(store):
    """All that a store tells of itself."""
    table, shelf = store.table, store.shelf
    return (len(store), store.names, str(store.upkeep), None if table is None else [str(lots) for lots in table],
            None if shelf is None else [str(head) for head in shelf])


def history(store):
    """All states of a store, taking back deed by deed; the store is left as it was."""
    def undone(other):
        found = [state(other)]
        while len(other):
            other.undo()
            found.append(state(other))
        return found
    return store.tried(undone)


class Making(Case):
    def test_new_stores(self):
        for names in (("x",), ("a", "b"), ("x", "y", "z"), ("abcdefgh", "b")):
            store = Store(PLAIN, *names)
            self.assertTrue(exactly((store.names, store.shelf, store.table, len(store)), (names, None, None, 0)))
            self.assertEqual(store.upkeep, PLAIN)
            self.assertIs(bool(store), False)
            self.refuses(NoChange(), store.undo)

    def test_refusals(self):
        for value in odd_values():
            if not isinstance(value, Upkeep):
                self.refuses(BadUpkeep("upkeep"), Store, value, "x")
                self.refuses(BadUpkeep("upkeep"), Store, value, value)
            if value not in ("x", "y", "low", "w"):
                self.refuses(BadBook("names"), Store, PLAIN, value)
                self.refuses(BadBook("names"), Store, PLAIN, "a", value)
        for names in ((), ("x", "x"), ("y", "x"), ("a", "b", "c", "d"), ("a", "c", "b"), ("rows",), ("a", "not"), (("x", "y"),)):
            self.refuses(BadBook("names"), Store, PLAIN, *names)

    def test_equal(self):
        made = [store_with(), store_with(upkeep=LOOKING), store_with(names=("y",)), store_with([3]), store_with([3, 3]), store_with([3], [3]),
                store_with([3, 5]), store_with([3], upkeep=LOOKING)]
        for at, one in enumerate(made):
            for k, other in enumerate(made):
                self.assertIs(one == other, at == k)
                self.assertIs(one != other, at != k)
            for value in odd_values():
                if not isinstance(value, Store):
                    self.assertIs(one == value, False)
        store = store_with([3, 5])
        store.take(0, (5,))
        self.assertEqual(store.table, store_with([3]).table)
        self.assertNotEqual(store, store_with([3]))
        store.look(0)
        self.assertEqual(store, store_with([3]))
        self.assertNotEqual(len(store), len(store_with([3])))


class Deeds(Case):
    def test_against_plain_lists_of_rows(self):
        rng = random.Random(241)
        odd = odd_values()
        refused, done = {}, {}
        for at in range(250):
            names = "xyz"[:rng.choice((1, 1, 2, 3))]
            book = rng.choice((PLAIN, LOOKING, random_book(rng), random_book(rng)))
            store, model = Store(book, *names), Model(book, names)
            for _ in range(30):
                deed = odd_deed(rng, model, odd) if rng.randrange(5) == 0 else random_deed(rng, model)
                kind = self.do_both(store, model, deed)
                counts = done if kind is None else refused
                counts[kind or deed[0]] = counts.get(kind or deed[0], 0) + 1
            self.assertEqual(len(store), len(model.past))
            while model.past:
                store.undo()
                model.do("undo")
                self.check_same(store, model)
            self.refuses(NoChange(), store.undo)
        self.assertGreater(min(done[deed] for deed in ("put", "take", "change", "merge", "split", "look", "undo")), 60)
        self.assertGreater(min(refused[kind] for kind in ("NoBlock", "BadRow", "BadLots", "BadHead", "NoChange")), 10)

    def do_both(self, store, model, deed):
        """Does a deed twice over; the name of the error that it raises."""
        before = state(store)
        name, *parts = deed
        try:
            model.do(*deed)
        except Refused as told:
            self.refuses(told.error, getattr(store, name), *parts)
            self.assertEqual(state(store), before)
            return type(told.error).__name__
        self.assertIs(getattr(store, name)(*parts), None)
        self.check_same(store, model)
        return None

    def check_same(self, store, model):
        heads, contents = model.heads(), model.contents()
        self.assertEqual(store.shelf, Shelf(*heads) if heads else None)
        self.assertEqual(store.table, Table(*contents) if contents else None)
        self.assertEqual(len(store), len(model.past))

    def test_put_and_take(self):
        store = Store(PLAIN, "x", "y")
        store.put(0, (3, None))
        self.assertEqual((store.shelf, store.table), (Shelf(Head(1, x=FullSpan(3, 3), y=Blank())), Table(Lots(((3, None), 1)))))
        store.put(0, (7, 4))
        self.assertEqual(store.shelf[0], Head(2, x=FullSpan(3, 7), y=OpenSpan(4, 4)))
        store.put(row=(3, None), at=0)
        self.assertEqual(str(store.table[0]), "3 null * 2 ; 7 4 * 1")
        store.put(1, (0, 0))
        self.assertEqual((len(store.shelf), len(store)), (2, 4))
        store.take(0, (7, 4))
        self.assertEqual(str(store.shelf[0]), "2 ; x 3 to ~7 ; y ~4 to ~4 open")
        store.take(row=(3, None), at=0)
        store.take(0, (3, None))
        self.assertEqual((len(store.shelf), str(store.table[0])), (1, "0 0 * 1"))
        store.take(0, (0, 0))
        self.assertEqual((store.shelf, store.table, len(store)), (None, None, 8))

    def test_change(self):
        store = store_with([3, 7], [5])
        store.change(0, (7,), (5,))
        self.assertEqual(str(store.shelf[0]), "2 ; x 3 to ~7")
        store.change(other=(9,), row=(3,), at=0)
        self.assertEqual(str(store.shelf[0]), "2 ; x ~3 to 9")
        store.change(0, (9,), (9,))
        self.assertEqual((str(store.shelf[0]), len(store)), ("2 ; x ~3 to ~9", 6))
        # The only row: its columns begin anew, and the block stays.
        store.change(1, (5,), (None,))
        self.assertEqual((str(store.shelf[1]), len(store.shelf)), ("1 ; x blank", 2))
        store.change(1, (None,), (2,))
        self.assertEqual((str(store.shelf[1]), str(store.table[1])), ("1 ; x 2 to 2", "2 * 1"))

    def test_one_head_is_made_at_the_end_of_a_change(self):
        # In between, no head with one row could be made: both ends would be reached.
        store = store_with([3, 7], upkeep=Upkeep(leave="keep"))
        store.change(0, (7,), (7,))
        self.assertEqual(str(store.shelf[0]), "2 ; x 3 to 7")
        self.refuses(BadHead("x"), store.take, 0, (7,))
        full = store_with([(at,) for at in range(40)])
        full.change(0, (3,), (100,))
        self.assertEqual(len(full.table[0]), 40)

    def test_merge_and_split(self):
        store = store_with([3, 7], [5, 9, 9], [None])
        store.merge(0)
        self.assertEqual((str(store.shelf[0]), str(store.table[0]), len(store.table)), ("5 ; x 3 to 9", "3 * 1 ; 5 * 1 ; 7 * 1 ; 9 * 2", 2))
        store.split(0, Lots(((9,), 1), ((3,), 1)))
        self.assertEqual([str(head) for head in store.shelf], ["3 ; x ~3 to ~9", "2 ; x ~3 to ~9", "1 ; x blank"])
        self.assertEqual([str(lots) for lots in store.table], ["5 * 1 ; 7 * 1 ; 9 * 1", "3 * 1 ; 9 * 1", "null * 1"])
        store.merge(at=1)
        self.assertEqual(str(store.shelf[1]), "3 ; x ~3 to ~9 open")
        store.split(lots=Lots(((None,), 1)), at=1)
        store.look(at=1)
        self.assertEqual([str(head) for head in store.shelf], ["3 ; x ~3 to ~9", "2 ; x 3 to 9", "1 ; x ~3 to ~9 open"])
        self.assertEqual(len(store), 11)

    def test_great_integers(self):
        store = store_with([-GREAT, GREAT])
        store.take(0, (GREAT,))
        self.assertEqual(store.shelf[0], Head(1, x=FullSpan(-GREAT, GREAT, True, False)))


class Refusals(Case):
    def check(self, store, error, deed, *parts):
        before, shelf, table = state(store), store.shelf, store.table
        self.refuses(error, getattr(store, deed), *parts)
        self.assertEqual((state(store), store.shelf, store.table), (before, shelf, table))

    def test_no_block_comes_first(self):
        store = store_with([3, 7], [5])
        for value in odd_values():
            if type(value) is not int or not 0 <= value <= 2:
                self.check(store, NoBlock(value), "put", value, value)
            if type(value) is not int or not 0 <= value <= 1:
                for deed, parts in (("take", 1), ("change", 2), ("merge", 0), ("split", 1), ("look", 0)):
                    self.check(store, NoBlock(value), deed, value, *[value] * parts)
        for value in (3, -1, True, 10 ** 9):
            self.check(store, NoBlock(value), "put", value, (3,))
        for value in (1, 2, -1, False, 10 ** 9):
            self.check(store, NoBlock(value), "merge", value)
        self.check(Store(PLAIN, "x"), NoBlock(0), "merge", 0)
        self.check(Store(PLAIN, "x"), NoBlock(0), "look", 0)
        self.check(Store(PLAIN, "x"), NoBlock(1), "put", 1, (3,))

    def test_rows(self):
        store = store_with([(3, None), (7, 1)], names=("x", "y"))
        for value in [*odd_values(), (3,), (3, None, 1), [3, None], (True, None), (3, "x"), (3, (1,)), (7, True), None]:
            if not exactly(value, (1, 2)):
                self.check(store, BadRow("row"), "put", 0, value)
                self.check(store, BadRow("row"), "put", 1, value)
                self.check(store, BadRow("other"), "change", 0, (3, None), value)
            self.check(store, BadRow("row"), "take", 0, value)
            self.check(store, BadRow("row"), "change", 0, value, value)
        self.check(store, BadRow("row"), "take", 0, (3, 1))

    def test_six_blocks(self):
        store = store_with(*[[3, 3, 4]] * 6)
        self.check(store, TooMany("blocks", 6), "put", 6, (3,))
        self.check(store, BadRow("row"), "put", 6, (3, 4))
        self.check(store, NoBlock(7), "put", 7, (3,))
        self.check(store, TooMany("blocks", 6), "split", 2, Lots(((3,), 1)))
        self.check(store, BadLots("lots"), "split", 2, Lots(((5,), 1)))
        store.merge(4)
        store.split(2, Lots(((3,), 2)))
        self.assertEqual(len(store.shelf), 6)

    def test_forty_unlike_rows(self):
        store = store_with(range(40), [40], [0, 1])
        for row in ((40,), (None,), (-1,)):
            self.check(store, TooMany("pairs", 40), "put", 0, row)
        store.put(0, (39,))
        self.check(store, TooMany("pairs", 40), "change", 0, (39,), (40,))
        store.change(0, (38,), (40,))
        self.check(store, TooMany("pairs", 40), "change", 0, (39,), (38,))
        store.undo()
        self.check(store, TooMany("pairs", 40), "merge", 0)
        self.assertEqual(store.table[0].rows, 41)
        store.take(1, (40,))
        store.merge(0)
        self.assertEqual((len(store.table[0]), store.table[0].rows), (40, 43))

    def test_lots(self):
        store = store_with([(3, None), (7, 1), (7, 1)], names=("x", "y"))
        for value in [*odd_values(), Lots(), Lots(((3, None), 2)), Lots(((7, 1), 3)), Lots(((7, 1), 2), ((3, None), 1)), Lots(((3, 1), 1)),
                      Lots(((7,), 1)), Lots(((7, 1, 1), 1)), Lots(((7, 1), 1), ((7, 2), 1)), Lots(((7, 1), GREAT)), "7 1 * 1", [(7, 1)]]:
            self.check(store, BadLots("lots"), "split", 0, value)
        store.split(0, Lots(((7, 1), 2)))
        self.assertEqual(len(store.shelf), 2)
        self.check(store, BadLots("lots"), "split", 0, Lots(((3, None), 1)))

    def test_heads_that_cannot_be_made(self):
        lazy = store_with([(3, 1), (7, 5)], names=("x", "y"), upkeep=Upkeep(leave="keep"))
        self.check(lazy, BadHead("x"), "take", 0, (7, 5))
        same = store_with([(3, 1), (3, 5)], names=("x", "y"), upkeep=Upkeep(leave="keep"))
        self.check(same, BadHead("y"), "take", 0, (3, 5))
        kept = store_with([(1, 3), (1, 7), (2, 7)], names=("x", "y"), upkeep=Upkeep(split="keep"))
        # Both parts have too few rows for a column: the first block and its least column are told.
        self.check(kept, BadHead("x"), "split", 0, Lots(((1, 3), 1), ((2, 7), 1)))
        self.check(kept, BadHead("x"), "split", 0, Lots(((1, 3), 1), ((1, 7), 1)))
        high = store_with([(1, 3), (1, 7), (1, 7)], names=("x", "y"), upkeep=Upkeep(split="keep"))
        self.check(high, BadHead("y"), "split", 0, Lots(((1, 7), 1)))
        self.check(high, BadHead("y"), "split", 0, Lots(((1, 7), 2)))

    def test_the_book_need_not_be_sound(self):
        store = store_with([3, 5, 7], upkeep=Upkeep(leave="keep", merge="keep"))
        store.take(0, (7,))
        self.assertEqual(str(store.shelf[0]), "2 ; x 3 to 7")
        self.assertIs(store.shelf.fits(store.table), False)
        store.put(1, (9,))
        store.merge(0)
        self.assertEqual(str(store.shelf[0]), "3 ; x 3 to 7")


class Back(Case):
    def test_undo(self):
        store = store_with([3], [5])
        states = history(store)
        self.assertEqual([told[0] for told in states], [2, 1, 0])
        store.undo()
        self.assertEqual(store, store_with([3]))
        store.put(1, (6,))
        store.undo()
        store.undo()
        self.assertEqual(store, store_with())
        self.refuses(NoChange(), store.undo)
        store.put(0, (1,))
        self.assertEqual(len(store), 1)
        self.assertIs(bool(store), True)

    def test_arguments_and_what_is_returned(self):
        store = store_with([3, 7])
        shelf, table = store.shelf, store.table
        store.put(0, (9,))
        self.assertEqual((str(shelf[0]), str(table[0])), ("2 ; x 3 to 7", "3 * 1 ; 7 * 1"))
        store.upkeep.rules["leave"] = "keep"
        self.assertEqual(store.upkeep, PLAIN)


class Trials(Case):
    def deeds(self, store):
        """Some deeds, one taken back that is older."""
        store.put(0, (9,))
        store.undo()
        store.undo()
        store.put(1, (4,))

    def test_not_kept(self):
        store = store_with([3, 7], [5])
        before, past = state(store), history(store)
        with store.trial() as trial:
            self.deeds(store)
            self.assertNotEqual(state(store), before)
        self.assertEqual((state(store), history(store)), (before, past))
        self.assertIsNot(trial, None)

    def test_kept(self):
        store, other = store_with([3, 7], [5]), store_with([3, 7], [5])
        self.deeds(other)
        with store.trial() as trial:
            store.put(0, (9,))
            self.assertIs(trial.keep(), None)
            store.undo()
            store.undo()
            store.put(1, (4,))
        self.assertEqual((state(store), history(store)), (state(other), history(other)))
        store.undo()
        self.assertEqual(store, store_with([3, 7]))

    def test_errors_go_on(self):
        store = store_with([3, 7], [5])
        before, past = state(store), history(store)
        for keeps in (False, True):
            for error in (KeyError, SkipError, ZeroDivisionError):
                with self.assertRaises(error):
                    with store.trial() as trial:
                        self.deeds(store)
                        if keeps:
                            trial.keep()
                        raise error("x")
                self.assertEqual((state(store), history(store)), (before, past))
        with self.assertRaises(NoBlock):
            with store.trial() as trial:
                trial.keep()
                self.deeds(store)
                store.take(9, (3,))
        self.assertEqual((state(store), history(store)), (before, past))

    def test_one_within_another(self):
        for outer_kept in (False, True):
            for inner_kept in (False, True):
                store, other = store_with([3, 7]), store_with([3, 7])
                with store.trial() as outer:
                    store.put(0, (9,))
                    with store.trial() as inner:
                        store.undo()
                        store.undo()
                        store.put(1, (1,))
                        if inner_kept:
                            inner.keep()
                    store.put(0, (5,))
                    if outer_kept:
                        outer.keep()
                if outer_kept:
                    if inner_kept:
                        other.undo()
                        other.put(1, (1,))
                    else:
                        other.put(0, (9,))
                    other.put(0, (5,))
                self.assertEqual((state(store), history(store)), (state(other), history(other)), (outer_kept, inner_kept))

    def test_an_error_within_that_is_caught(self):
        store, other = store_with([3]), store_with([3])
        with store.trial() as outer:
            store.put(0, (5,))
            try:
                with store.trial() as inner:
                    inner.keep()
                    store.put(0, (9,))
                    store.put(7, (9,))
            except NoBlock:
                pass
            outer.keep()
        other.put(0, (5,))
        self.assertEqual((state(store), history(store)), (state(other), history(other)))

    def test_all_deeds_taken_back_within(self):
        store = store_with([3, 7], [5])
        past = history(store)
        with store.trial():
            while len(store):
                store.undo()
            self.refuses(NoChange(), store.undo)
            store.put(0, (1,))
        self.assertEqual(history(store), past)

    def test_tried(self):
        store = store_with([3, 7])
        past = history(store)

        def work(other):
            self.assertIs(other, store)
            other.put(0, (9,))
            return [len(other)]

        self.assertEqual(store.tried(work), [3])
        self.assertEqual(history(store), past)
        for kept in (False, 0, 1, None, "yes", [True]):
            self.assertEqual(store.tried(work, kept), [3])
            self.assertEqual(history(store), past)
        self.assertEqual(store.tried(kept=False, work=work), [3])
        self.assertEqual(store.tried(work, kept=True), [3])
        self.assertEqual((len(store), str(store.shelf[0])), (3, "3 ; x 3 to 9"))
        self.assertIs(store.tried(lambda other: None, True), None)

        def fails(other):
            other.put(0, (11,))
            raise KeyError("x")

        past = history(store)
        for kept in (False, True):
            self.assertRaises(KeyError, store.tried, fails, kept)
            self.assertEqual(history(store), past)

    def test_tried_within_a_trial(self):
        store = store_with([3])
        with store.trial() as trial:
            store.tried(lambda other: other.put(0, (4,)), True)
            store.tried(lambda other: other.put(0, (5,)))
            trial.keep()
        self.assertEqual(str(store.table[0]), "3 * 1 ; 4 * 1")


class Columns(Case):
    def test_nulls_in_several_columns(self):
        store = store_with([(None, 1, 5), (2, None, 5), (2, 1, None)], names=("a", "b", "c"))
        self.assertEqual(store.shelf[0], Head(3, a=OpenSpan(2, 2), b=HoledSpan(1, 1), c=HoledSpan(5, 5)))
        store.take(0, (2, None, 5))
        self.assertEqual(str(store.shelf[0]), "2 ; a ~2 to ~2 open ; b 1 to 1 open ; c ~5 to ~5 holed")

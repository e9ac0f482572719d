"""Tests of the texts of stores: store_text and read_store."""

import random

from headskip.errors import BadText, NoChange
from headskip.lots import Lots
from headskip.reading import read_store
from headskip.shelves import Shelf
from headskip.store import Store
from headskip.texts import store_text
from headskip.upkeep import Upkeep
from helpers import Case, bent_texts, odd_values
from store_model import Model, Refused, random_deed
from test_store import state, store_with
from upkeep_rules import random_book

BOOK = "upkeep take take keep keep bound keep take bound"
TEXT = f"""names x y
{BOOK}
lots 3 null * 2 ; 7 1 * 1
head 3 ; x 3 to 7 ; y 1 to 1 open
lots 5 5 * 1
head 1 ; x 5 to 5 ; y 5 to 5"""
ROWS = TEXT.split("\n")
VOCABULARY = ("names", "upkeep", "lots", "head", "x", "z", "take", "keep", "look", "null", "*", ";", "-", "0", "1", "3", "7", "to", "~3",
              "blank", "list", "open", "holed", "", "03")


def drawn_store(rng, deeds):
    """A store behind so many drawn deeds."""
    names = "xyz"[:rng.choice((1, 2, 3))]
    book = rng.choice((Upkeep(), random_book(rng)))
    store, model = Store(book, *names), Model(book, names)
    for _ in range(deeds):
        deed = random_deed(rng, model)
        try:
            model.do(*deed)
        except Refused:
            continue
        getattr(store, deed[0])(*deed[1:])
    return store, model


class Writing(Case):
    def test_texts(self):
        store = store_with([(3, None), (7, 1), (3, None)], [(5, 5)], names=("x", "y"))
        self.assertEqual(store_text(store), TEXT)
        self.assertEqual(store_text(store=Store(Upkeep(), "x")), f"names x\n{BOOK}")
        looking = Store(Upkeep(begin="look", merge="look"), "a", "b", "c")
        self.assertEqual(store_text(looking), "names a b c\nupkeep look take keep keep bound keep look bound")
        looking.put(0, (None, -3, 0))
        self.assertEqual(store_text(looking).split("\n")[2:], ["lots null -3 0 * 1", "head 1 ; a blank ; b -3 to -3 ; c 0 to 0"])

    def test_a_store_is_not_changed(self):
        store = store_with([3, 7], [5])
        before = state(store)
        store_text(store)
        self.assertEqual(state(store), before)


class Reading(Case):
    def test_an_equal_store_with_nothing_to_take_back(self):
        rng = random.Random(251)
        blocks = {}
        for _ in range(300):
            store, _ = drawn_store(rng, rng.randint(0, 25))
            text = store_text(store)
            found = read_store(text)
            self.assertIs(type(found), Store)
            self.assertEqual(found, store)
            self.assertEqual((store_text(found), len(found), found.names, found.upkeep), (text, 0, store.names, store.upkeep))
            self.refuses(NoChange(), found.undo)
            many = 0 if store.shelf is None else len(store.shelf)
            blocks[many] = blocks.get(many, 0) + 1
        self.assertGreater(min(blocks.get(many, 0) for many in range(6)), 1)

    def test_it_goes_on_alike(self):
        rng = random.Random(252)
        for _ in range(80):
            store, model = drawn_store(rng, 12)
            found = read_store(text=store_text(store))
            for _ in range(10):
                deed = random_deed(rng, model)
                if deed == ("undo",) and len(found) == 0:
                    continue
                try:
                    model.do(*deed)
                except Refused as told:
                    self.refuses(told.error, getattr(found, deed[0]), *deed[1:])
                    self.refuses(told.error, getattr(store, deed[0]), *deed[1:])
                    continue
                for other in (store, found):
                    getattr(other, deed[0])(*deed[1:])
                self.assertEqual(store_text(store), store_text(found))

    def test_six_blocks_and_none(self):
        store = store_with(*[[at, at + 1] for at in range(6)])
        self.assertEqual(read_store(store_text(store)), store)
        self.assertEqual(len(read_store(store_text(store)).shelf), 6)
        self.assertEqual(read_store(f"names x\n{BOOK}"), Store(Upkeep(), "x"))

    def test_a_head_need_not_fit(self):
        found = read_store(f"names x\n{BOOK}\nlots 3 * 1 ; 5 * 1\nhead 2 ; x 7 to 9")
        self.assertEqual(str(found.shelf[0]), "2 ; x 7 to 9")
        self.assertIs(found.shelf.fits(found.table), False)
        found.look(0)
        self.assertEqual(found.shelf, Shelf.of(found.table, "x"))

    def test_a_head_of_lists(self):
        found = read_store(f"names x\n{BOOK}\nlots 3 * 1 ; 5 * 1\nhead 2 ; x list 3 5")
        self.assertEqual(store_text(found).split("\n")[3], "head 2 ; x list 3 5")
        found.put(0, (4,))
        self.assertEqual(str(found.shelf[0]), "3 ; x 3 to 5")


class Refusals(Case):
    def check(self, text, line, word):
        self.refuses(BadText(line, word), read_store, text)

    def check_row(self, at, row, word):
        self.check("\n".join([*ROWS[:at], row, *ROWS[at + 1:]]), at, word)
        self.check("\n".join([*ROWS[:at], row]), at, word)

    def test_what_is_no_string(self):
        for value in odd_values():
            self.check(value, 0, 0)

    def test_rows_that_are_missing(self):
        for many in (1, 3, 5):
            self.check("\n".join(ROWS[:many]), many, 0)
        self.check("", 0, 0)
        self.check("\n", 0, 0)
        for many in (2, 4, 6):
            text = "\n".join(ROWS[:many])
            self.assertEqual(store_text(read_store(text)), text)
            self.check(text + "\n", many, 0)
            self.check(text + "\n\n", many, 0)
        self.check("\n".join(ROWS[1:]), 0, 0)
        self.check("\n".join(ROWS[:1] + ROWS[2:]), 1, 0)
        self.check("\n".join(ROWS[:2] + ROWS[3:]), 2, 0)
        self.check("\n".join(ROWS[:3] + ROWS[4:]), 3, 0)
        self.check("\n".join(ROWS[:3] + ROWS[2:]), 3, 0)
        self.check("\n".join(ROWS[:4] + ROWS[3:]), 4, 0)
        self.check("\n".join([*ROWS[:2], ROWS[3], ROWS[2]]), 2, 0)

    def test_rows_of_names(self):
        for row, word in (
            ("names", 1), ("names ", 1), ("names y x", 2), ("names x x", 2), ("names x y z a", 4), ("names a b c d", 4), ("names x rows", 2),
            ("names X", 1), ("names x  y", 2), ("names x y ", 3), ("Names x", 0), (" names x", 0), ("name x", 0), ("names x1", 1),
            ("names abcdefghi", 1), ("names a b c ", 4),
        ):
            self.check_row(0, row, word)

    def test_rows_of_rule_books(self):
        words = BOOK.split(" ")
        for row, word in (
            ("upkeep", 1), ("upkeep keep", 1), ("upkeep take take stretch", 3), (BOOK + " ", 9), (BOOK + " bound", 9), ("upkeeps take", 0),
            (" ".join(words[:8]), 8), (" ".join(words[:8] + ["take"]), 8), ("upkeep  take", 1), ("", 0), (ROWS[0], 0),
        ):
            self.check_row(1, row, word)

    def test_rows_of_lots(self):
        many = " ; ".join([f"{at} 0 * 1" for at in range(41)])
        for row, word in (
            ("lots", 1), ("lots x", 1), ("lots 3", 2), ("lots 3 null", 3), ("lots 3 null *", 4), ("lots 3 null * 0", 4), ("lots 3 null * -1", 4),
            ("lots 3 null * 1 ;", 6), ("lots 3 null * 1 ; 2 1 * 1", 6), ("lots 3 4 * 1 ; 3 4 * 1", 7), ("lots 3 null * 1 ; 3 null * 1", 7),
            ("lots 3 null * 1 x", 5), ("lots 3 null * 1 ", 5), ("lots - x", 2), ("lot 3 4 * 1", 0), ("lots 3 4 5 6 * 1", 4),
            ("lots 03 4 * 1", 1), ("lots 3 4 * 1 ; 5 * 1", 7),
            # All words can stand, but what they tell is refused.
            ("lots -", 0), ("lots 3 * 1", 0), ("lots 3 4 5 * 1", 0), ("lots " + many, 0),
        ):
            self.check_row(2, row, word)
            self.check_row(4, row, word)

    def test_rows_of_heads(self):
        for row, word in (
            ("head", 1), ("head x", 1), ("head 0", 1), ("head 3", 2), ("head 3 ;", 3), ("head 3 ; x", 4), ("head 3 ; x 3", 5), ("head 3 ; x 3 to", 6),
            ("head 3 ; x 3 to 2", 6), ("head 3 ; x 3 to 7 x", 7), ("head 3 ; x 3 to 7 ; x blank", 8), ("head 3 ; x 3 to 7 ; a blank", 8),
            ("head 3 ; x ~3 to 3", 6), ("heads 3", 0), ("head 3 ; x list 3 3", 6), ("head 3 ; x 3 to 7 ; y blank ", 10), ("head  3", 1),
            ("head 3 ; x 3 to 7 open holed", 8),
            # Other names, another number of rows, and heads that the class refuses.
            ("head 3 ; x 3 to 7", 0), ("head 3 ; x 3 to 7 ; z 1 to 1", 0), ("head 3 ; x 3 to 7 ; y blank ; z blank", 0),
            ("head 2 ; x 3 to 7 ; y blank", 0), ("head 4 ; x 3 to 7 ; y blank", 0), ("head 3 ; x list 1 2 3 4 ; y blank", 0),
            ("head 3 ; w blank ; x blank ; y blank ; z blank", 0), ("head 30 ; x list 1 2 3 4 5 ; y list 1 2 3 4 5", 0), ("head 3 ; y blank", 0),
        ):
            self.check_row(3, row, word)

    def test_a_seventh_block(self):
        rows = store_text(store_with(*[[(at, at)] for at in range(6)], names=("x", "y"))).split("\n")
        self.check("\n".join([*rows, *rows[-2:]]), 14, 0)
        self.check("\n".join([*rows, rows[-2]]), 14, 0)
        self.check("\n".join([*rows, "lots -"]), 14, 0)
        # A word that cannot stand is told first.
        self.check("\n".join([*rows, "lots 3 4 * 0"]), 14, 4)
        self.check("\n".join([*rows, "lots 3 4 * 1 x"]), 14, 5)

    def test_the_first_row_is_told(self):
        self.check(TEXT.replace("lots 3", "lots x").replace("head 1", "head 0"), 2, 1)
        self.check(TEXT.replace("head 3", "head 4").replace("lots 5", "lots x"), 3, 0)

    def test_words_left_out_put_in_exchanged(self):
        read = 0
        for at, row in enumerate(ROWS):
            for words in bent_texts(row.split(" "), VOCABULARY):
                rows = [*ROWS[:at], " ".join(words), *ROWS[at + 1:]]
                read += self.check_bent(rows) is None
        self.assertGreater(read, 20)

    def check_bent(self, rows):
        """Checks that a text is read as it stands, or refused at the first word that cannot stand."""
        told = refused_at("\n".join(rows))
        if told is None:
            return None
        line, word = told
        if line == len(rows):
            self.assertEqual(word, 0)
            return told
        words = rows[line].split(" ")
        self.assertTrue(0 <= word <= len(words), (rows, told))
        self.assertEqual(refused_at("\n".join(rows[:line + 1])), told)
        if word > 0:
            ahead = refused_at("\n".join([*rows[:line], " ".join(words[:word])]))
            self.assertIn(ahead, (None, told, (line, 0), (line + 1, 0)), (rows, told))
            self.assertEqual(refused_at("\n".join([*rows[:line], " ".join(words[:word + 1])])), told)
        return told

    def test_rows_left_out_put_in_exchanged(self):
        for rows in bent_texts(ROWS, [*ROWS, "", "names a", "undo"]):
            self.check_bent(rows)


def refused_at(text):
    """The row and the word at which a text is refused, None if it is read."""
    try:
        store = read_store(text)
    except BadText as error:
        return error.line, error.word
    if store_text(store) != text:
        raise AssertionError(text)
    return None


class Kept(Case):
    def test_the_lots_of_a_store_that_was_read(self):
        found = read_store(TEXT)
        self.assertEqual(list(found.table), [Lots(((3, None), 2), ((7, 1), 1)), Lots(((5, 5), 1))])
        self.assertEqual([str(head) for head in found.shelf], ["3 ; x 3 to 7 ; y 1 to 1 open", "1 ; x 5 to 5 ; y 5 to 5"])

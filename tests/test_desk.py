"""Tests of desks: each line and its answer, words that cannot stand, errors of what is called, and `run`."""

import random

from headskip.desk import Desk
from headskip.errors import (
    BadBook, BadHead, BadLine, BadLots, BadRead, BadRow, BadTable, NoBlock, NoChange, NoName, SkipError, TooMany,
)
from headskip.filters import Less
from headskip.lots import Lots
from headskip.needs import fewest, musts
from headskip.questions import Greatest, Many, Question
from headskip.readers import Reader, course
from headskip.settled import settle
from headskip.store import Store
from headskip.texts import store_text
from headskip.upkeep import Upkeep
from helpers import Case, bent_texts, odd_values
from settled_rules import questions_over
from store_model import Model, Refused, line_of, random_deed
from test_store import PLAIN, state, store_with
from upkeep_rules import random_book

QUESTIONS = ("some where x < 5", "many where x < 5", "at least 2 where x < 5", "greatest x where always", "least x where x null",
             "total x where not x null", "top 3 x where x < 9")


def desk_with(*blocks, upkeep=PLAIN, names=("x",)):
    return Desk(store_with(*blocks, upkeep=upkeep, names=names))


class Making(Case):
    def test_a_store_of_its_own_with_nothing_to_take_back(self):
        store = store_with([3, 7], [5])
        before = state(store)
        desk = Desk(store=store)
        self.assertEqual((desk("show"), len(desk), bool(desk)), (store_text(store).replace("\n", " / "), 0, False))
        self.refuses(NoChange(), desk.ask, "undo")
        desk.run("put 0 9", "take 1 5")
        self.assertEqual((state(store), len(desk)), (before, 2))
        store.put(0, (1,))
        self.assertEqual(desk("head 0"), "3 ; x 3 to 9")

    def test_what_is_no_store(self):
        for value in odd_values():
            if not isinstance(value, Store):
                self.refuses(BadBook("store"), Desk, value)
        self.refuses(BadBook("store"), Desk, desk_with([3]))


class Lines(Case):
    def test_deeds_do_what_the_methods_do(self):
        rng = random.Random(261)
        refused = 0
        for _ in range(120):
            names = "xyz"[:rng.choice((1, 2, 3))]
            book = rng.choice((PLAIN, random_book(rng)))
            store, model = Store(book, *names), Model(book, names)
            desk = Desk(store)
            for _ in range(15):
                deed = random_deed(rng, model)
                line = line_of(deed)
                call = rng.choice((desk, desk.ask))
                try:
                    model.do(*deed)
                except Refused as told:
                    refused += 1
                    self.refuses(told.error, call, line)
                else:
                    getattr(store, deed[0])(*deed[1:])
                    self.assertEqual(call(line), "ok")
                self.assertEqual(desk("show"), store_text(store).replace("\n", " / "))
                self.assertEqual(len(desk), len(store))
                for at, head in enumerate(store.shelf or []):
                    self.assertEqual(desk(f"head {at}"), str(head))
        self.assertGreater(refused, 20)

    def test_questions_are_answered_as_the_functions_do(self):
        rng = random.Random(262)
        answers = set()
        for _ in range(40):
            store = store_with(*[[rng.choice((0, 2, 5, 9, None)) for _ in range(rng.randint(1, 4))] for _ in range(rng.randint(1, 4))])
            desk, shelf, table = Desk(store), store.shelf, store.table
            for question in questions_over(Less("x", rng.choice((1, 5, 9))), "x", rng):
                answers.add(desk(f"ask {question}"))
                self.assertEqual(desk(f"ask {question}"), answer_text(question(shelf, table)))
                self.assertEqual(desk(f"musts {question}"), numbers_text(musts(shelf, question, table)))
                self.assertEqual(desk(f"fewest {question}"), str(len(fewest(shelf, question, table).reads)))
                for reader in ("in order", "open first", "most first"):
                    wanted = numbers_text(list(course(Reader.read(reader), shelf, question, table)))
                    self.assertEqual(desk.ask(f"course {reader} for {question}"), wanted)
                places = [at for at in range(len(shelf)) if rng.randrange(2)]
                found = settle(shelf, question, shelf.read_at(table, *places))
                wanted = f"settled {answer_text(found.answer)}" if found else f"open {found.at}"
                self.assertEqual(desk(f"settle {','.join(map(str, places)) or '-'} {question}"), wanted)
            self.assertEqual(len(desk), 0)
        self.assertTrue({"yes", "no", "0", "none", "-"} <= answers, answers)

    def test_each_line(self):
        desk = Desk(Store(PLAIN, "x", "y"))
        for line, answer in (
            ("show", "names x y / upkeep take take keep keep bound keep take bound"), ("put 0 3 null", "ok"), ("put 0 -7 4", "ok"),
            ("head 0", "2 ; x -7 to 3 ; y 4 to 4 open"), ("put 1 5 5", "ok"), ("change 1 5 5 ; null 0", "ok"), ("head 1", "1 ; x blank ; y 0 to 0"),
            ("merge 0", "ok"), ("head 0", "3 ; x -7 to 3 open ; y 0 to 4 open"), ("look 0", "ok"), ("head 0", "3 ; x -7 to 3 holed ; y 0 to 4 holed"),
            ("split 0 -7 4 * 1 ; null 0 * 1", "ok"), ("head 1", "2 ; x ~-7 to ~3 open ; y ~0 to ~4 open"), ("take 0 3 null", "ok"),
            ("show", "names x y / upkeep take take keep keep bound keep take bound / lots -7 4 * 1 ; null 0 * 1 / "
                     "head 2 ; x ~-7 to ~3 open ; y ~0 to ~4 open"),
            ("ask many where y < 9", "2"), ("ask some where x = y", "no"), ("ask some where x null", "yes"), ("ask at least 2 where y < 9", "yes"),
            ("ask greatest x where y < 4", "none"), ("ask greatest y where always", "4"), ("ask top 2 y where always", "4 0"),
            ("ask top 4 x where x null", "-"), ("ask total x where always", "-7"), ("settle - many where y < 9", "open 0"),
            ("settle 0 many where y < 9", "settled 2"), ("settle 0 top 3 x where always", "settled -7"), ("settle 0 least x where x null", "settled none"),
            ("settle 0 top 2 x where x null", "settled -"), ("settle - some where never", "settled no"), ("musts many where y < 9", "0"),
            ("musts many where always", "-"), ("fewest many where y < 9", "1"), ("fewest many where always", "0"),
            ("course in order for many where y < 9", "0"), ("course most first for some where never", "-"), ("undo", "ok"),
            ("head 0", "1 ; x ~-7 to ~3 open ; y ~0 to ~4 open"),
        ):
            self.assertEqual(desk.ask(line), answer, line)
        self.assertEqual(len(desk), 7)


def answer_text(answer):
    if answer is None or isinstance(answer, bool):
        return {None: "none", True: "yes", False: "no"}[answer]
    return numbers_text(answer) if isinstance(answer, tuple) else str(answer)


def numbers_text(numbers):
    return " ".join(map(str, numbers)) or "-"


class Words(Case):
    def cannot_stand(self, desk, line, word):
        before = desk("show"), len(desk)
        for call in (desk.ask, desk, desk.run):
            self.refuses(BadLine(word), call, line)
        self.assertEqual((desk("show"), len(desk)), before)

    def test_what_is_no_line(self):
        desk = desk_with([3])
        for value in odd_values():
            self.cannot_stand(desk, value, 0)
        for line in ("", " ", "Put 0 3", "puts 0 3", "put\n0 3", "ok", "ask\nmany", " show", "open 0", "names x", "many where always"):
            self.cannot_stand(desk, line, 0)
        self.assertEqual(desk(line="head 0"), "1 ; x 3 to 3")

    def test_words_of_one_column(self):
        desk = desk_with([3, 7], [5])
        for line, word in (
            ("put", 1), ("put x", 1), ("put 0", 2), ("put 0 x", 2), ("put 0 3 4", 3), ("put 0 ", 2), ("put  0 3", 1), ("put 0 03", 2), ("put 0 +3", 2),
            ("put 0 None", 2), ("put 0 3 ", 3), ("put 0 3\n", 2), ("take", 1), ("take -1 3", 1), ("take 0 3 3", 3), ("change 0 3", 3),
            ("change 0 3 4", 3), ("change 0 3 ;", 4), ("change 0 3 ; x", 4), ("change 0 3 ; 4 5", 5), ("change 0 ; 4", 2), ("merge", 1),
            ("merge 0 1", 2), ("merge -", 1), ("split 0", 2), ("split 0 x", 2), ("split 0 3", 3), ("split 0 3 *", 4), ("split 0 3 * 0", 4),
            ("split 0 3 * 1 ; 3 * 1", 6), ("split 0 7 * 1 ; 3 * 1", 6), ("split 0 3 * 1 x", 5), ("split 0 - -", 3), ("look", 1), ("look 0 0", 2),
            ("undo 1", 1), ("undo ", 1), ("show 0", 1), ("head", 1), ("head x", 1), ("head 0 0", 2), ("ask", 1), ("ask x", 1), ("ask all where always", 1),
            ("ask many", 2), ("ask many where", 3), ("ask many where x", 4), ("ask many where always x", 4), ("ask top 5 x where always", 2),
            ("settle", 1), ("settle -", 2), ("settle many where always", 1), ("settle - many where", 4), ("settle 0 1 many where always", 2),
            ("musts", 1), ("musts 0", 1), ("musts many where x < 3 3", 6), ("fewest", 1), ("fewest - many where always", 1),
            ("course", 1), ("course in", 2), ("course in first for", 2), ("course in order", 3), ("course in order many where always", 3),
            ("course in order for", 4), ("course first", 1), ("course open first for x", 4), ("course most first for many where x <", 8),
        ):
            self.cannot_stand(desk, line, word)

    def test_words_of_two_columns(self):
        desk = desk_with([(3, 4)], names=("x", "y"))
        for line, word in (
            ("put 0 3", 3), ("put 0 3 4 5", 4), ("put 0 null", 3), ("put 0 3 ;", 3), ("change 0 3 4 5 6", 4), ("change 0 3 4 ; 5", 6),
            ("change 0 3 ; 4 5", 3), ("change 0 3 4 ; 5 6 7", 7), ("take 0 3", 3),
        ):
            self.cannot_stand(desk, line, word)
        # Rows of another width can stand in a text of Lots.
        self.refuses(BadLots("lots"), desk.ask, "split 0 3 * 1")

    def test_places(self):
        desk = desk_with([3])
        for word in ("00", "01", "-0", "-1", "+1", "1000000000", "0" * 9, "1.0", "0,1", "", "x", "null", "\u0661"):
            for line in (f"put {word} 3", f"merge {word}", f"head {word}", f"look {word}"):
                self.cannot_stand(desk, line, 1)
        self.refuses(NoBlock(999999999), desk.ask, "put 999999999 3")
        self.refuses(NoBlock(999999999), desk.ask, "head 999999999")

    def test_reads(self):
        desk = desk_with([3], [5, 7], [None])
        for word in ("", ",", "0,", ",0", "1,0", "0,0", "0,1,1", "0, 1", "00", "-1", "0,-1", "-,0", "0-1", "01,2", "1000000000", "--", "0,x", "all", "0,1000000000"):
            self.cannot_stand(desk, f"settle {word} many where always", 1)
        for word in ("-", "0", "2", "0,1", "0,2", "0,1,2"):
            self.assertEqual(desk(f"settle {word} many where always"), "settled 4")
        self.refuses(NoBlock(999999999), desk.ask, "settle 0,999999999 many where always")
        self.refuses(NoBlock(3), desk.ask, "settle 1,3,5 many where always")

    def test_words_left_out_put_in_exchanged(self):
        texts = ["put 0 3 null", "take 1 5 5", "change 0 3 4 ; null 5", "merge 0", "split 0 3 4 * 1 ; 5 null * 2", "look 1", "undo", "show", "head 1",
                 "ask top 2 x where x < y", "settle 0,1 many where always", "musts some where x null", "fewest total x where x = y",
                 "course open first for least x where not x in 1 4"]
        words = ("put", "ask", "0", "1", "3", "null", ";", "*", "-", "0,1", "x", "for", "order", "where", "", "many")
        refused = set()
        for text in texts:
            for bent in bent_texts(text.split(" "), words):
                refused.add(self.check_bent(bent))
        self.assertTrue({None, 0, 1, 2, 3, 4, 5, 6} <= refused)

    def check_bent(self, words):
        told = refused_at(words)
        if told is not None:
            self.assertTrue(0 <= told <= len(words), words)
            if told < len(words):
                self.assertEqual(refused_at(words[:told + 1]), told, words)
            if told > 0:
                self.assertIn(refused_at(words[:told]), (None, told), words)
        return told


def refused_at(words):
    """The word at which a line is refused, None if all its words can stand."""
    desk = desk_with([(3, 4), (5, None), (5, None)], [(5, 5)], names=("x", "y"))
    before = desk("show")
    try:
        desk.run(" ".join(words))
    except BadLine as error:
        if desk("show") != before:
            raise AssertionError(words) from error
        return error.word
    except SkipError:
        if desk("show") != before:
            raise AssertionError(words)
    return None


class Errors(Case):
    def test_what_the_deeds_raise(self):
        desk = desk_with([3, 7], [5])
        for line, error in (
            ("put 3 3", NoBlock(3)), ("take 2 3", NoBlock(2)), ("take 0 5", BadRow("row")), ("change 0 5 ; 3", BadRow("row")), ("merge 1", NoBlock(1)),
            ("split 0 -", BadLots("lots")), ("split 2 3 * 1", NoBlock(2)), ("split 0 3 * 1 ; 7 * 1", BadLots("lots")), ("look 2", NoBlock(2)),
            ("undo", NoChange()), ("head 2", NoBlock(2)), ("split 0 " + " ; ".join([f"{at} * 1" for at in range(41)]), TooMany("pairs", 40)),
            ("split 9 " + " ; ".join([f"{at} * 1" for at in range(41)]), TooMany("pairs", 40)),
        ):
            before = desk("show")
            self.refuses(error, desk.ask, line)
            self.assertEqual((desk("show"), len(desk)), (before, 0))
        lazy = desk_with([3, 7], upkeep=Upkeep(leave="keep"))
        self.refuses(BadHead("x"), lazy.ask, "take 0 7")
        full = desk_with(*[[3, 4]] * 6)
        self.refuses(TooMany("blocks", 6), full.ask, "put 6 3")
        self.refuses(TooMany("blocks", 6), full.ask, "split 0 3 * 1")

    def test_questions_without_blocks(self):
        desk = Desk(Store(PLAIN, "x"))
        for question in QUESTIONS:
            for line in ("ask ", "musts ", "fewest ", "settle - ", "course in order for ", "course most first for "):
                self.refuses(NoBlock(0), desk.ask, line + question)
                self.refuses(NoBlock(0), desk.ask, line + question.replace("x", "y"))
            self.refuses(NoBlock(3), desk.ask, "settle 3,4 " + question)
        self.refuses(NoBlock(0), desk.ask, "head 0")
        self.refuses(NoBlock(0), desk.ask, "look 0")
        self.refuses(NoChange(), desk.ask, "undo")

    def test_errors_in_their_order(self):
        desk, none = desk_with([3, 7], [5]), Desk(Store(PLAIN, "x"))
        linked = "many where ( x = y and y = z )"
        for line in ("ask ", "musts ", "fewest ", "settle 7 ", "course in order for "):
            # A word that cannot stand, then what the filter raises, then blocks that are not there, then names.
            self.refuses(BadLine(len((line + linked).split(" "))), none.ask, line + linked + " x")
            self.refuses(TooMany("linked", 2), none.ask, line + linked)
            self.refuses(TooMany("linked", 2), desk.ask, line + linked)
        self.refuses(NoBlock(7), desk.ask, "settle 1,7 many where y < 3")
        for line in ("ask ", "musts ", "fewest ", "settle 0 ", "course in order for "):
            self.refuses(NoName("y"), desk.ask, line + "many where y < 3")
            self.refuses(NoName("a"), desk.ask, line + "greatest y where a = y")

    def test_a_book_that_is_not_sound(self):
        desk = desk_with([3, 5, 7], [5], [1, 2], upkeep=Upkeep(leave="keep"))
        desk("take 0 7")
        for line in ("ask ", "musts ", "fewest ", "course in order for "):
            self.refuses(BadTable(0), desk.ask, line + "many where x < 6")
        self.refuses(BadRead(0), desk.ask, "settle 0,1 many where x < 6")
        self.assertEqual(desk("settle 1 many where x < 6"), "settled 4")


class Run(Case):
    def test_answers(self):
        desk = Desk(Store(PLAIN, "x"))
        self.assertEqual(desk.run(), [])
        self.assertEqual(desk.run("put 0 3", "show", "ask many where always"), ["ok", desk("show"), "1"])
        self.assertEqual(len(desk), 1)
        self.assertEqual(desk.run("undo", "put 0 4", "put 0 5"), ["ok"] * 3)
        self.assertEqual(len(desk), 2)

    def test_behind_an_error_all_is_as_it_was(self):
        desk = desk_with([3, 7], [5])
        desk.run("put 0 9", "put 0 11")
        shown = [desk("show")]
        for lines, error in (
            (("undo", "undo", "put 1 6", "put 5 5"), NoBlock(5)), (("undo", "undo", "undo"), NoChange()), (("undo", "take 0 9", None), BadLine(0)),
            (("merge 0", "look 0", "ask many where y < 3"), NoName("y")), (("put 0 12", "put 0"), BadLine(2)), (("",), BadLine(0)),
        ):
            self.refuses(error, desk.run, *lines)
            self.assertEqual((desk("show"), len(desk)), (shown[0], 2))
        while len(desk):
            self.assertEqual(desk("undo"), "ok")
            shown.append(desk("show"))
        self.assertEqual(len(set(shown)), 3)
        self.assertTrue(shown[1].endswith("lots 3 * 1 ; 7 * 1 ; 9 * 1 / head 3 ; x 3 to 9 / lots 5 * 1 / head 1 ; x 5 to 5"))
        self.assertEqual(desk("head 0"), "2 ; x 3 to 7")


class Objects(Case):
    def test_texts_of_the_question_are_those_of_the_class(self):
        desk = desk_with([3, 7], [5])
        self.assertEqual(Question.read("greatest x where x < 6"), Greatest("x", Less("x", 6)))
        self.assertEqual(desk("ask greatest x where x < 6"), "5")
        self.assertEqual(str(Many(Less("x", 6))), "many where x < 6")
        self.assertEqual(desk(f"split 0 {Lots(((3,), 1))}"), "ok")

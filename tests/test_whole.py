"""Tests over the whole program: stores behind drawn deeds, what is settled there, and shelves that are changed alike."""

import random

from headskip.desk import Desk
from headskip.filters import Filter
from headskip.heads import Head
from headskip.look_settled import shows_settled, shows_unsettled
from headskip.losses import greatest_loss, loss, shows_loss
from headskip.lots import Lots
from headskip.needs import fewest, must, musts, shows_fewest
from headskip.questions import AtLeast, Greatest, Least, Many, Question, Some, Top, Total
from headskip.readers import OpenFirst, course
from headskip.reading import read_store
from headskip.settled import settle
from headskip.shelves import Shelf, Table
from headskip.store import Store
from headskip.texts import store_text
from headskip.upkeep import Upkeep, sound
from helpers import Case, exactly, random_filter
from settled_rules import questions_over
from store_model import Model, Refused, line_of, random_deed
from test_desk import answer_text
from test_readers import READERS
from test_store import PLAIN, history
from upkeep_rules import random_book


def sound_book(rng):
    while True:
        book = rng.choice((PLAIN, Upkeep(leave="look", drop="look"), random_book(rng), random_book(rng)))
        if sound(book):
            return book


def drawn_deeds(rng, book, names, many):
    """A store under a rule book behind drawn deeds, one after the other, with each deed."""
    store, model = Store(book, *names), Model(book, names)
    for _ in range(many):
        deed = random_deed(rng, model)
        try:
            model.do(*deed)
        except Refused:
            continue
        getattr(store, deed[0])(*deed[1:])
        yield store, deed


def drawn_stores(many, seed, deeds=14):
    """Stores with some blocks, under sound rule books."""
    rng = random.Random(seed)
    while many:
        names = "xyz"[:rng.choice((1, 1, 2, 3))]
        stores = [store for store, _ in drawn_deeds(rng, sound_book(rng), names, rng.randint(3, deeds))]
        if stores and stores[-1].shelf is not None:
            many -= 1
            yield rng, stores[-1]


def questions_for(rng, names):
    return questions_over(random_filter(rng, list(names), [0, 1, 2, 5], 3), rng.choice(names), rng)


class Stores(Case):
    def test_heads_fit_behind_each_deed(self):
        rng = random.Random(271)
        deeds = 0
        for _ in range(120):
            names = "xyz"[:rng.choice((1, 2, 3))]
            for store, _ in drawn_deeds(rng, sound_book(rng), names, 25):
                deeds += 1
                if store.shelf is not None:
                    self.assertIs(store.shelf.fits(store.table), True, str(store.upkeep))
                    self.assertEqual(store.shelf.names, store.names)
        self.assertGreater(deeds, 2000)

    def test_questions_are_settled_behind_each_deed(self):
        rng = random.Random(272)
        found = {True: 0, False: 0}
        for _ in range(24):
            names = "xy"[:rng.choice((1, 2))]
            for store, _ in drawn_deeds(rng, sound_book(rng), names, 10):
                if store.shelf is None:
                    continue
                shelf, table = store.shelf, store.table
                for question in questions_for(rng, names):
                    places = [at for at in range(len(shelf)) if rng.randrange(2)]
                    paper = self.check_settled(shelf, question, table, places)
                    found[bool(paper)] += 1
        self.assertGreater(min(found.values()), 100)

    def check_settled(self, shelf, question, table, places):
        reads = shelf.read_at(table, *places)
        paper = settle(shelf, question, reads)
        self.assertIs(shows_settled(shelf, question, reads, paper), bool(paper))
        self.assertIs(shows_unsettled(shelf, question, reads, paper), not paper)
        if paper:
            self.assertTrue(exactly(paper.answer, question(shelf, table)), str(question))
            self.assertTrue(settle(shelf, question, shelf.read_at(table, *range(len(shelf)))))
        return paper

    def test_needs_readers_and_losses(self):
        for rng, store in drawn_stores(40, 273):
            shelf, table = store.shelf, store.table
            for question in questions_for(rng, store.names):
                needed = fewest(shelf, question, table)
                self.assertIs(shows_fewest(shelf, question, table, needed), True)
                self.assertTrue(settle(shelf, question, shelf.read_at(table, *needed.reads)))
                for at in range(len(shelf)):
                    self.assertIs(must(shelf, question, table, at) is None, at not in musts(shelf, question, table))
                for reader in READERS:
                    reads = list(course(reader, shelf, question, table))
                    self.assertTrue(set(musts(shelf, question, table)) <= set(reads))
                    self.assertEqual(loss(reader, shelf, question, table), len(reads) - len(needed.reads))
                if isinstance(question, (Some, Greatest, Least)):
                    worst = greatest_loss(shelf, question)
                    self.assertIs(shows_loss(shelf, question, worst), True)
                    self.assertGreaterEqual(worst.number, loss(OpenFirst(), shelf, question, table))

    def test_texts_are_read_back(self):
        for rng, store in drawn_stores(80, 274):
            self.assertEqual(read_store(store_text(store)), store)
            for head, lots in zip(store.shelf, store.table):
                self.assertEqual((Head.read(str(head)), Lots.read(str(lots))), (head, lots))
            for question in questions_for(rng, store.names):
                self.assertEqual((Question.read(str(question)), Filter.read(str(question.test))), (question, question.test))
            self.assertEqual(Upkeep.read(str(store.upkeep)), store.upkeep)

    def test_desks_go_the_same_way(self):
        rng = random.Random(275)
        for _ in range(30):
            names = "xy"[:rng.choice((1, 2))]
            book = sound_book(rng)
            desk = Desk(Store(book, *names))
            for store, deed in drawn_deeds(rng, book, names, 12):
                self.assertEqual(desk(line_of(deed)), "ok")
                self.assertEqual((desk("show"), len(desk)), (store_text(store).replace("\n", " / "), len(store)))
                if store.shelf is not None:
                    question = rng.choice(questions_for(rng, names))
                    self.assertEqual(desk(f"ask {question}"), answer_text(question(store.shelf, store.table)))

    def test_all_is_taken_back(self):
        for _, store in drawn_stores(30, 276):
            told = history(store)
            while len(store):
                store.undo()
            self.assertEqual((store, told[-1]), (Store(store.upkeep, *store.names), history(store)[-1]))


class Shelves(Case):
    """Shelves that are changed so that their tables are, too."""

    def test_merged_blocks(self):
        settled = 0
        for rng, store in drawn_stores(90, 277):
            shelf, table = store.shelf, store.table
            if len(shelf) < 2:
                continue
            at = rng.randrange(len(shelf) - 1)
            merged = shelf.with_merged(at)
            joined = Table(*list(table)[:at], table[at] + table[at + 1], *list(table)[at + 2:])
            self.assertIs(merged.fits(joined), True)
            for question in questions_for(rng, store.names):
                self.assertEqual(question(merged, joined), question(shelf, table))
                # The merged head lets all contents that the two heads let.
                paper = settle(merged, question, {})
                if paper:
                    settled += 1
                    self.assertTrue(exactly(settle(shelf, question, {}).answer, paper.answer))
        self.assertGreater(settled, 40)

    def test_heads_told_anew(self):
        settled = 0
        for rng, store in drawn_stores(60, 278):
            shelf, table = store.shelf, store.table
            tight = Shelf.of(table, *store.names)
            store.tried(lambda other: [other.look(at) for at in range(len(shelf))])
            self.assertEqual(store.shelf, shelf)
            for at in range(len(shelf)):
                store.look(at)
                self.assertTrue(store.shelf[at] <= shelf[at])
            self.assertEqual(store.shelf, tight)
            for question in questions_for(rng, store.names):
                paper = settle(shelf, question, {})
                if paper:
                    settled += 1
                    self.assertTrue(exactly(settle(tight, question, {}).answer, paper.answer))
        self.assertGreater(settled, 40)

    def test_moved_values(self):
        for rng, store in drawn_stores(40, 279):
            by = rng.choice((1, -3, 10 ** 20))
            moved = Shelf(*[Head.of(head.rows, {name: head[name] + by for name in head}) for head in store.shelf])
            table = self.with_values(store.table, lambda value: value + by)
            for question in questions_for(rng, store.names):
                if isinstance(question, Total):
                    continue
                other = self.with_test(question, question.test.shifted(by), question.asked)
                self.check_alike(store, question, moved, other, table, lambda answer: answer + by)

    def test_mirrored_values(self):
        for rng, store in drawn_stores(40, 280):
            turned = Shelf(*[Head.of(head.rows, {name: -head[name] for name in head}) for head in store.shelf])
            table = self.with_values(store.table, lambda value: -value)
            for question in questions_for(rng, store.names):
                if isinstance(question, Top):
                    continue
                other = self.with_test(question, question.test.mirrored(), question.asked, True)
                self.check_alike(store, question, turned, other, table, lambda answer: -answer)

    def test_columns_with_other_names(self):
        names = {"x": "b", "y": "c", "z": "w"}
        for rng, store in drawn_stores(40, 281):
            renamed = Shelf(*[Head.of(head.rows, {names[name]: head[name] for name in head}) for head in store.shelf])
            for question in questions_for(rng, store.names):
                asked = None if question.asked is None else names[question.asked]
                other = self.with_test(question, question.test.renamed(names), asked)
                self.check_alike(store, question, renamed, other, store.table, lambda answer: answer)

    def with_values(self, table, change):
        """A table of which each integer is changed."""
        def changed(row):
            return tuple(None if value is None else change(value) for value in row)
        return Table(*[Lots(*[(changed(row), times) for row, times in lots]) for lots in table])

    def with_test(self, question, test, asked, turned=False):
        """A question of the same kind with another filter and column; turned ones ask for the other end."""
        if isinstance(question, Top):
            return Top(question.quota, asked, test)
        if isinstance(question, AtLeast):
            return AtLeast(question.quota, test)
        if isinstance(question, (Some, Many)):
            return type(question)(test)
        kind = type(question)
        if turned and kind is not Total:
            kind = Least if kind is Greatest else Greatest
        return kind(asked, test)

    def check_alike(self, store, question, shelf, other, table, change):
        """The same is settled on both shelves, and answers are changed as the values are."""
        self.assertIs(shelf.fits(table), True)
        for places in ((), range(0, len(shelf), 2)):
            one = settle(store.shelf, question, store.shelf.read_at(store.table, *places))
            two = settle(shelf, other, shelf.read_at(table, *places))
            self.assertIs(type(one), type(two), (str(question), str(other)))
            if one:
                self.check_answers(question, one.answer, two.answer, change)
        self.assertEqual(musts(store.shelf, question, store.table), musts(shelf, other, table))
        self.assertEqual(len(fewest(store.shelf, question, store.table).reads), len(fewest(shelf, other, table).reads))
        self.assertEqual(list(course(OpenFirst(), store.shelf, question, store.table)), list(course(OpenFirst(), shelf, other, table)))

    def check_answers(self, question, one, two, change):
        if isinstance(question, Top):
            self.assertTrue(exactly(two, tuple(change(value) for value in one)))
        elif isinstance(question, (Greatest, Least)):
            self.assertEqual(two, None if one is None else change(one))
        else:
            self.assertTrue(exactly(two, change(one) if isinstance(question, Total) else one))

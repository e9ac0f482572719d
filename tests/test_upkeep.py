"""Tests of rule books: their words, what each rule does, deeds, and which ones are sound."""

import itertools
import random

from headskip.errors import BadText, BadUpkeep
from headskip.tolds import Blank, FullSpan, HoledSpan, OpenSpan, Told
from headskip.upkeep import Broken, Come, Gone, Merge, Sound, Split, Upkeep, play, shows_sound, sound
from helpers import Case, exactly, odd_values, tolds_over
from upkeep_rules import (
    DEFAULTS, RULES, all_books, come_text, fits, gone_text, is_sound_by_the_fact, parted_text, played, random_book, random_deeds,
    reaches_by_the_fact, together_text,
)

GREAT = 10 ** 29
TEXT = "take take keep keep bound keep take bound"


def text_of(told):
    return None if told is None else str(told)


class Words(Case):
    def test_defaults_and_each_word(self):
        self.assertTrue(exactly(Upkeep().rules, DEFAULTS))
        for rule, words in RULES.items():
            for word in words.split():
                book = Upkeep(**{rule: word})
                self.assertTrue(exactly(book.rules, {**DEFAULTS, rule: word}))
                self.assertEqual(Upkeep.read(str(book)), book)

    def test_rules_by_name_alone(self):
        self.assertRaises(TypeError, Upkeep, "take")
        self.assertRaises(TypeError, lambda: Upkeep(other="take"))

    def test_wrong_words_and_the_first_of_several(self):
        names = list(RULES)
        for at, rule in enumerate(names):
            for word in [*odd_values(), "taken", "Take", " take", "take ", *"take stretch keep bound look".split()]:
                if not isinstance(word, str) or word not in RULES[rule].split():
                    self.refuses(BadUpkeep(rule), Upkeep, **{rule: word})
                    others = {other: word for other in names[at + 1:]}
                    self.refuses(BadUpkeep(rule), Upkeep, **{**others, rule: word})
        self.refuses(BadUpkeep("touch"), Upkeep, split="take", drop=None, touch="stretch", merge="x")

    def test_rules_are_a_new_dict(self):
        book = Upkeep(leave="look")
        book.rules["leave"] = "keep"
        del book.rules["begin"]
        self.assertEqual(book.rules, {**DEFAULTS, "leave": "look"})
        self.assertIsNot(book.rules, book.rules)
        self.assertEqual(list(book.rules), list(RULES))

    def test_equal(self):
        self.assertEqual(Upkeep(), Upkeep(begin="take", split="bound"))
        for rule, words in RULES.items():
            made = [Upkeep(**{rule: word}) for word in words.split()]
            for at, one in enumerate(made):
                for k, other in enumerate(made):
                    self.assertIs(one == other, at == k)
                    self.assertIs(one != other, at != k)
        for value in [*odd_values(), str(Upkeep()), Upkeep().rules]:
            if not isinstance(value, Upkeep):
                self.assertIs(Upkeep() == value, False)

    def test_texts(self):
        self.assertEqual(str(Upkeep()), TEXT)
        self.assertEqual(str(Upkeep(begin="look", merge="keep")), "look take keep keep bound keep keep bound")
        for book in all_books()[::7]:
            self.assertEqual(str(book), " ".join(book.rules.values()))
            self.assertEqual(Upkeep.read(text=str(book)), book)

    def test_words_that_cannot_stand(self):
        words = TEXT.split(" ")
        for at, rule in enumerate(RULES):
            for word in ("take", "stretch", "keep", "bound", "look", "", "x", "Take"):
                if word not in RULES[rule].split():
                    self.unreadable(Upkeep.read, " ".join(words[:at] + [word] + words[at + 1:]), at)
                    self.unreadable(Upkeep.read, " ".join(words[:at] + [word, "x"]), at)
            self.unreadable(Upkeep.read, " ".join(words[:at]), at)
        for text, word in ((TEXT + " ", 8), (TEXT + " bound", 8), (" " + TEXT, 0), ("take\ntake", 0), (TEXT.replace("bound", "bound\n"), 4)):
            self.unreadable(Upkeep.read, text, word)
        self.check_texts(Upkeep.read, [TEXT, "stretch stretch bound look keep look look look"],
                         ("take", "stretch", "keep", "bound", "look", "", "null"), BadText)

    def test_any_other_value(self):
        for value in odd_values():
            self.unreadable(Upkeep.read, value, 0)


class EachRule(Case):
    """Each word of each rule, at the low end, at the high end and at the NULL mark."""

    def check(self, rule, told, wanted, call):
        for word, text in wanted.items():
            found = call(Upkeep(**{rule: word}), Told.read(told) if told else None)
            self.assertEqual(text_of(found), text, (rule, word, told))

    def came(self, rule, told, value, values, **wanted):
        self.check(rule, told, wanted, lambda book, old: book.come(old, value, values))
        self.check(rule, told, wanted, lambda book, old: book.come(values=tuple(values), value=value, told=old))

    def went(self, rule, told, value, values, **wanted):
        self.check(rule, told, wanted, lambda book, old: book.gone(old, value, values))
        self.check(rule, told, wanted, lambda book, old: book.gone(values=tuple(values), value=value, told=old))

    def test_begin(self):
        self.came("begin", None, 3, [3], take="3 to 3", stretch="~3 to ~3", look="3 to 3")
        self.came("begin", None, None, [None], take="blank", stretch="blank", look="blank")
        self.came("begin", "blank", 3, [None, 3], take="3 to 3 open", stretch="~3 to ~3 open", look="3 to 3 open")
        self.came("begin", "3 to 7", None, [3, None, 7], take="3 to 7 holed", stretch="3 to 7 open", look="3 to 7 holed")

    def test_grow(self):
        self.came("grow", "3 to 7", 9, [3, 7, 9], take="3 to 9", stretch="3 to ~9", keep="3 to 7", look="3 to 9")
        self.came("grow", "3 to 7", 1, [1, 3, 7], take="1 to 7", stretch="~1 to 7", keep="3 to 7", look="1 to 7")
        self.came("grow", "~3 to ~7 open", 9, [5, 9, None], take="~3 to 9 open", stretch="~3 to ~9 open", keep="~3 to ~7 open",
                  look="~3 to 9 open")

    def test_touch(self):
        self.came("touch", "~3 to 7", 3, [3, 3, 7], keep="~3 to 7", take="3 to 7", bound="~3 to 7", look="3 to 7")
        self.came("touch", "3 to 7", 7, [3, 7, 7], keep="3 to 7", take="3 to 7", bound="3 to ~7", look="3 to 7")
        self.came("touch", "3 to ~7", 7, [3, 7], keep="3 to ~7", take="3 to 7", bound="3 to ~7", look="3 to 7")
        self.came("touch", "3 to 3", 3, [3, 3], keep="3 to 3", take="3 to 3", bound="~3 to ~3", look="3 to 3")
        self.came("touch", "3 to 7 open", None, [3, 7, None], keep="3 to 7 open", take="3 to 7 holed", bound="3 to 7 open", look="3 to 7 holed")
        self.came("touch", "3 to 7 holed", None, [3, 7, None], keep="3 to 7 holed", take="3 to 7 holed", bound="3 to 7 open",
                  look="3 to 7 holed")
        self.came("touch", "blank", None, [None, None], keep="blank", take="blank", bound="blank", look="blank")

    def test_stay(self):
        self.came("stay", "3 to 7", 5, [3, 5, 7], keep="3 to 7", bound="~3 to ~7", look="3 to 7")
        self.came("stay", "~1 to ~9 holed", 5, [3, 5, 7, None], keep="~1 to ~9 holed", bound="~1 to ~9 holed", look="3 to 7 holed")
        # An integer beyond one end lies farther in than the other one.
        self.came("stay", "~3 to 7", 9, [5, 7, 9], keep="~3 to 9", bound="~3 to 9", look="5 to 9")
        self.came("stay", "3 to 7", 7, [3, 7, 7], keep="3 to 7", bound="~3 to 7", look="3 to 7")

    def test_leave(self):
        self.went("leave", "3 to 7", 7, [3, 5], keep="3 to 7", bound="3 to ~7", look="3 to 5")
        self.went("leave", "3 to 7", 7, [3, 7], keep="3 to 7", bound="3 to ~7", look="3 to 7")
        self.went("leave", "3 to 7", 3, [5, 7], keep="3 to 7", bound="~3 to 7", look="5 to 7")
        self.went("leave", "3 to 3 holed", 3, [None], keep="3 to 3 holed", bound="~3 to ~3 holed", look="blank")
        self.went("leave", "3 to 7 holed", None, [3, 7], keep="3 to 7 holed", bound="3 to 7 open", look="3 to 7")
        self.went("leave", "3 to 7 open", None, [3, None, 7], keep="3 to 7 open", bound="3 to 7 open", look="3 to 7 holed")
        self.went("leave", "3 to 7", None, [3, None, 7], keep="3 to 7", bound="3 to 7", look="3 to 7 holed")
        self.went("leave", "3 to 7", None, [3, 7], keep="3 to 7", bound="3 to 7", look="3 to 7")

    def test_drop(self):
        self.went("drop", "3 to 7", 5, [3, 7], keep="3 to 7", bound="~3 to ~7", look="3 to 7")
        self.went("drop", "~1 to ~9 open", 5, [3, 7, None], keep="~1 to ~9 open", bound="~1 to ~9 open", look="3 to 7 open")
        # The high end leaves, as a bound; 3 is dropped.
        self.went("drop", "~1 to 7", 7, [3, 7], keep="~1 to ~7", bound="~1 to ~7", look="3 to ~7")
        self.went("drop", "3 to 7", 9, [3, 7], keep="3 to 7", bound="~3 to ~7", look="3 to 7")

    def test_merge(self):
        for one, other, values, take, bound, keep, look in (
            ("3 to 7", "5 to 9", [3, 7, 5, 9], "3 to 9", "~3 to ~9", "3 to 7", "3 to 9"),
            ("5 to 9", "3 to 7", [3, 7, 5, 9], "3 to 9", "~3 to ~9", "5 to 9", "3 to 9"),
            ("~3 to 7", "3 to ~7", [3, 7], "3 to 7", "~3 to ~7", "~3 to 7", "3 to 7"),
            ("3 to ~7", "~1 to 7", [3, 7], "~1 to 7", "~1 to ~7", "3 to ~7", "3 to 7"),
            ("3 to 7 open", "3 to 7 holed", [3, 7, None], "3 to 7 holed", "~3 to ~7 open", "3 to 7 open", "3 to 7 holed"),
            ("3 to 7 holed", "3 to 7", [3, 7, None], "3 to 7 holed", "~3 to ~7 open", "3 to 7 holed", "3 to 7 holed"),
            ("3 to 7", "3 to 7 holed", [3, 7, None], "3 to 7 holed", "~3 to ~7 open", "3 to 7 holed", "3 to 7 holed"),
            ("3 to 7", "blank", [3, 7, None], "3 to 7 open", "~3 to ~7 open", "3 to 7 open", "3 to 7 holed"),
            ("blank", "3 to 7 holed", [3, 7, None], "3 to 7 holed", "~3 to ~7 open", "3 to 7 open", "3 to 7 holed"),
            ("blank", "blank", [None], "blank", "blank", "blank", "blank"),
        ):
            for word, text in (("take", take), ("bound", bound), ("keep", keep), ("look", look)):
                book, parts = Upkeep(merge=word), (Told.read(one), Told.read(other))
                self.assertEqual(str(book.together(*parts, values)), text, (one, other, word))
                self.assertEqual(str(book.together(values=tuple(values), other=parts[1], one=parts[0])), text)

    def test_split(self):
        for told, values, keep, bound, look in (
            ("3 to 7", [3, 5], "3 to 7", "~3 to ~7", "3 to 5"), ("3 to 7 holed", [7], "3 to 7 holed", "~3 to ~7 open", "7 to 7"),
            ("3 to 7 open", [None], "3 to 7 open", "~3 to ~7 open", "blank"), ("blank", [None], "blank", "blank", "blank"),
            ("3 to 7", [5, None], "3 to 7", "~3 to ~7", "5 to 5 holed"), ("3 to 3", [3, 3], "3 to 3", "~3 to ~3", "3 to 3"),
        ):
            for word, text in (("keep", keep), ("bound", bound), ("look", look)):
                self.assertEqual(str(Upkeep(split=word).parted(Told.read(told), values)), text)
                self.assertEqual(str(Upkeep(split=word).parted(values=tuple(values), told=Told.read(told))), text)

    def test_blank_ones_and_no_rows(self):
        looking = Upkeep(**{rule: "look" for rule in RULES})
        for book in (Upkeep(), looking):
            for value in (3, None):
                self.assertEqual(book.gone(Blank(), None, [value]), Blank())
                self.assertIs(book.gone(FullSpan(3, 3), 3, []), None)
                self.assertIs(book.gone(Blank(), None, ()), None)
            self.assertEqual(book.come(Blank(), None, [None, None]), Blank())
            self.assertEqual(book.come(None, None, [None]), Blank())
            self.assertEqual(book.gone(HoledSpan(3, 3), None, [3]), looking.come(None, 3, [3]) if book is looking else OpenSpan(3, 3))

    def test_low_and_high_cross(self):
        # Behind a split 5 and 9 are told as 5 to 8; when 5 goes, 9 is the low end, above 8.
        book = Upkeep(leave="look")
        self.assertEqual(str(book.gone(FullSpan(5, 8), 5, [9])), "9 to 9")
        self.assertEqual(str(book.gone(HoledSpan(5, 8), 5, [9, 11, None])), "9 to 11 holed")
        self.assertEqual(str(book.gone(OpenSpan(5, 8, True, False), 5, [8, 11])), "8 to 8 open")
        self.assertEqual(str(book.gone(FullSpan(5, 8), 8, [1, 2])), "1 to 2")
        self.assertEqual(str(Upkeep(stay="look", grow="keep").come(FullSpan(3, 7), 9, [8, 9])), "8 to 9")
        self.assertEqual(str(Upkeep(drop="look", leave="keep").gone(FullSpan(3, 7), 3, [1, 2])), "1 to 2")

    def test_against_the_words_for_all_small_column_heads(self):
        rng = random.Random(231)
        tolds = [told for told in tolds_over((1, 2, 3)) if not str(told).startswith("list")]
        columns = [values for many in (1, 2, 3) for values in itertools.combinations_with_replacement((0, 1, 2, 3, 4, None), many)]
        for told in tolds:
            for value, values in itertools.product((0, 1, 2, 3, 4, None), columns):
                book = random_book(rng)
                where = (str(book), str(told), value, values)
                self.assertEqual(text_of(book.come(told, value, values)), come_text(book, str(told), value, values), where)
                self.assertEqual(text_of(book.come(None, value, values)), come_text(book, None, value, values), where)
                self.assertEqual(text_of(book.gone(told, value, values)), gone_text(book, str(told), value, values), where)
                self.assertEqual(text_of(book.parted(told, values)), parted_text(book, str(told), values), where)
                other = rng.choice(tolds)
                found = book.together(told, other, values)
                self.assertEqual(text_of(found), together_text(book, str(told), str(other), values), where)

    def test_great_integers(self):
        book = Upkeep(grow="stretch")
        told = book.come(book.come(None, -GREAT, [-GREAT]), GREAT, [GREAT, -GREAT])
        self.assertEqual(told, FullSpan(-GREAT, GREAT, True, False))

    def test_arguments_are_not_changed(self):
        for book in (Upkeep(), Upkeep(**{rule: "look" for rule in RULES})):
            values = [9, None, 3]
            told = book.come(FullSpan(3, 3), 9, values)
            book.gone(told, 7, values)
            book.parted(told, values)
            book.together(told, told, values)
            self.assertEqual(values, [9, None, 3])
            again = str(told)
            values.clear()
            self.assertEqual(str(told), again)


class Played(Case):
    def test_against_the_words(self):
        rng = random.Random(232)
        for at in range(1500):
            book = random_book(rng) if at % 3 else Upkeep()
            deeds = random_deeds(rng, rng.randint(0, 12))
            found = play(book, deeds)
            self.assertIs(type(found), tuple)
            self.assertTrue(exactly([(text_of(told), values) for told, values in found], played(book, deeds)), str(book))
            self.assertTrue(exactly([type(pair) for pair in found], [tuple, tuple]))
            self.assertEqual(play(upkeep=book, deeds=tuple(deeds)), found)

    def test_what_can_be_done(self):
        two = [Come(0, 3), Come(0, 7)]
        self.assertEqual(play(Upkeep(), []), ((None, ()), (None, ())))
        self.assertEqual(play(Upkeep(), two), ((FullSpan(3, 7), (3, 7)), (None, ())))
        self.assertEqual(play(Upkeep(), [*two, Come(1, None)]), ((FullSpan(3, 7), (3, 7)), (Blank(), (None,))))
        self.assertEqual(play(Upkeep(), [*two, Come(1, None), Merge()]), ((OpenSpan(3, 7), (3, 7, None)), (None, ())))
        self.assertEqual(play(Upkeep(), [*two, Gone(0, 3), Gone(0, 7)]), ((None, ()), (None, ())))
        self.assertEqual(play(Upkeep(), [*two, *two, Split((7, 3, 3))])[1], (FullSpan(3, 7, False, False), (3, 3, 7)))
        self.assertEqual(play(Upkeep(), [Come(1, None), Come(1, -2), Come(1, None)])[1][1], (-2, None, None))

    def test_what_cannot_be_done(self):
        two, full = [Come(0, 3), Come(0, 7)], [Come(0, 3), Come(0, 7), Come(1, 7)]
        for deeds in (
            [Gone(0, 3)], [*two, Gone(0, 5)], [*two, Gone(1, 3)], [*two, Gone(0, None)], [Merge()], [*two, Merge()], [Come(1, 7), Merge()],
            [*two, Split(())], [*two, Split((3, 7))], [*two, Split((3, 3))], [*two, Split((5,))], [*two, Split((None,))], [*full, Split((3,))],
            [Split((3,))], [Come(1, 3), Come(1, 7), Split((3,))], [*two, Split([3])], [*two, Split(3)], [*two, Split((True,))], [*two, Split((3, 7, 7))],
            [Come(2, 3)], [Come(-1, 3)], [Come(True, 3)], [Come(None, 3)], [Come(0, True)], [Come(0, "x")], [Come(0, (3,))], [Come("0", 3)],
            [*two, Gone(0, True)], [*two, Gone(False, 3)], [*two, Gone(2, 3)], [*two, Gone(0, [3])], [Come(0, 1), Gone(0, True)],
        ):
            self.refuses(BadUpkeep(len(deeds) - 1), play, Upkeep(), deeds)
            self.refuses(BadUpkeep(len(deeds) - 1), play, Upkeep(), tuple(deeds))
            self.refuses(BadUpkeep(len(deeds) - 1), play, Upkeep(), [*deeds, None, Gone(0, 9)])

    def test_errors_in_their_order(self):
        for value in odd_values():
            if not isinstance(value, Upkeep):
                self.refuses(BadUpkeep("upkeep"), play, value, value)
                self.refuses(BadUpkeep("upkeep"), play, value, [])
            if not isinstance(value, (list, tuple)):
                self.refuses(BadUpkeep("deeds"), play, Upkeep(), value)
            elif value:
                self.refuses(BadUpkeep(0), play, Upkeep(), value)
            if not isinstance(value, Come):
                self.refuses(BadUpkeep(0), play, Upkeep(), [value, value])
            self.refuses(BadUpkeep(1), play, Upkeep(), [Come(0, 3), Come(0, [value])])
            if type(value) is not int or value not in (0, 1):
                self.refuses(BadUpkeep(1), play, Upkeep(), [Come(0, 3), Come(value, 3)])
                self.refuses(BadUpkeep(1), play, Upkeep(), [Come(0, 3), Gone(value, 3)])
            if value is not None and type(value) is not int:
                self.refuses(BadUpkeep(1), play, Upkeep(), [Come(0, 3), Come(1, value)])
            self.refuses(BadUpkeep(2), play, Upkeep(), [Come(0, 3), Come(0, 4), Split(value)])
            if value != 3:
                self.refuses(BadUpkeep(1), play, Upkeep(), [Come(0, 3), Gone(0, value)])

    def test_arguments_are_not_changed(self):
        deeds = [Come(0, 3), Come(0, 7), Split((7,))]
        found = play(Upkeep(), deeds)
        self.assertEqual(deeds, [Come(0, 3), Come(0, 7), Split((7,))])
        deeds.clear()
        self.assertEqual(found, play(Upkeep(), (Come(0, 3), Come(0, 7), Split((7,)))))


class Soundness(Case):
    def test_all_rule_books(self):
        books = all_books()
        self.assertEqual(len(books), 3 * 4 * 4 * 3 * 3 * 3 * 4 * 3)
        for book in books:
            found = sound(book)
            if is_sound_by_the_fact(book):
                self.assertIs(type(found), Sound)
                self.assertIs(found.reaches, reaches_by_the_fact(book))
            else:
                self.assertIs(type(found), Broken)
                self.assertIs(type(found.deeds), tuple)
                self.assertFalse(all(fits(text, values) for text, values in played(book, found.deeds)), str(book))
            self.assertIs(shows_sound(book, found), True)

    def test_sound_ones_fit_behind_drawn_deeds(self):
        rng = random.Random(233)
        books = [book for book in all_books() if sound(book)]
        for _ in range(2500):
            book = rng.choice(books)
            deeds = random_deeds(rng, 14)
            for many in (4, 9, 14):
                for told, values in play(book, deeds[:many]):
                    self.assertTrue(told is None or told.fits(values), (str(book), values))
                    if told is not None and not sound(book).reaches and not isinstance(told, Blank):
                        self.assertFalse(told.low_reached or told.high_reached or None in told.wants)

    def test_ends_are_reached_behind_some_deeds(self):
        rng = random.Random(234)
        for book in rng.sample([book for book in all_books() if reaches_by_the_fact(book)], 60):
            reached = False
            for _ in range(400):
                blocks = play(book, random_deeds(rng, 9))
                reached = reached or any(told is not None and not isinstance(told, Blank) and told.wants for told, _ in blocks)
            self.assertTrue(reached, str(book))

    def test_right_and_bent_papers(self):
        lazy, plain, far = Upkeep(leave="keep"), Upkeep(), Upkeep(begin="stretch", grow="stretch", leave="keep", split="keep")
        broken = Broken((Come(0, 3), Come(0, 7), Gone(0, 7)))
        for book, paper, wanted in (
            (plain, Sound(True), True), (plain, Sound(False), False), (plain, Sound(1), False), (far, Sound(False), True), (far, Sound(True), False),
            (far, Sound(0), False), (far, Sound(None), False), (lazy, Sound(True), False), (lazy, Sound(False), False), (lazy, broken, True),
            (plain, broken, False), (far, broken, False), (lazy, Broken((*broken.deeds, Come(1, 3))), True), (lazy, Broken(broken.deeds[:2]), False),
            (lazy, Broken((*broken.deeds, Come(0, 7))), False), (lazy, Broken(list(broken.deeds)), False), (lazy, Broken(()), False),
            (lazy, Broken((*broken.deeds, Gone(0, 7))), False), (lazy, Broken((*broken.deeds, None)), False), (lazy, Broken(None), False),
            (lazy, Broken((Come(False, 3), *broken.deeds[1:])), False), (lazy, Broken((None, *broken.deeds)), False), (lazy, broken.deeds, False),
            (lazy, True, False), (plain, True, False), (plain, Broken(Sound(True)), False),
            (Upkeep(split="keep"), Broken((Come(0, 3), Come(0, 7), Split((7,)))), True), (Upkeep(split="keep"), broken, False),
            (Upkeep(merge="keep"), Broken((Come(0, 3), Come(1, 7), Merge())), True), (Upkeep(grow="keep"), Broken((Come(1, 3), Come(1, 7))), True),
        ):
            self.assertIs(shows_sound(book, paper), wanted, (str(book), vars(paper) if hasattr(paper, "deeds") else paper))
            self.assertIs(shows_sound(paper=paper, upkeep=book), wanted)

    def test_any_value(self):
        for value in odd_values():
            for book in (Upkeep(), Upkeep(leave="keep")):
                if not isinstance(value, (Sound, Broken)):
                    self.assertIs(shows_sound(book, value), False)
                self.assertIs(shows_sound(book, Broken(value)), False)
                self.assertIs(shows_sound(book, Broken((value, Come(0, 3)))), False)
                self.assertIs(shows_sound(book, Sound(value)), value is True and book == Upkeep())
            if not isinstance(value, Upkeep):
                self.refuses(BadUpkeep("upkeep"), sound, value)
                self.refuses(BadUpkeep("upkeep"), shows_sound, value, value)
        self.assertEqual(sound(upkeep=Upkeep()), Sound(True))


class Papers(Case):
    def test_which_are_false(self):
        for value in odd_values():
            self.assertIs(bool(Broken(value)), False)
            self.assertEqual([bool(paper) for paper in (Sound(value), Come(value, value), Gone(value, value), Split(value), Merge())], [True] * 5)

    def test_papers_keep_and_compare_any_values(self):
        made = (Come(1, 2), Gone(1, 2), Split(1), Merge(), Sound(1), Broken(1))
        for value in odd_values():
            come, gone, split, right, broken = Come(value, [value]), Gone(value, [value]), Split(value), Sound(value), Broken(value)
            self.assertTrue(exactly([come.block, come.value, gone.block, gone.value], [value, [value]] * 2))
            self.assertTrue(exactly([split.part, right.reaches, broken.deeds], [value] * 3))
            self.assertEqual([come, gone, split, right, broken], [Come(value=[value], block=value), Gone(value=[value], block=value),
                             Split(part=value), Sound(reaches=value), Broken(deeds=value)])
            for paper in made:
                if type(value) is not type(paper):
                    self.assertIs(paper == value, False)
        for at, one in enumerate(made):
            for k, other in enumerate((Come(True, 2), Gone(True, 2), Split(True), Merge(), Sound(True), Broken(True))):
                self.assertIs(one == other, at == k)
        for one, other in ((Come(1, 2), Come(0, 2)), (Come(1, 2), Come(1, 3)), (Gone(1, 2), Gone(0, 2)), (Gone(1, 2), Gone(1, 3)),
                           (Split(1), Split(2)), (Sound(1), Sound(2)), (Broken(1), Broken(2))):
            self.assertNotEqual(one, other)

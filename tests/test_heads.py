"""Tests of heads: making them, what fits them, and comparing them."""

import itertools
import random

from headskip.errors import BadHead, BadName, NoName, TooMany
from headskip.heads import Head
from headskip.lots import Lots
from headskip.tolds import Blank, FullList, FullSpan, HoledList, HoledSpan, OpenList, OpenSpan, Told
from helpers import Case, contents_over, exactly, odd_values, tolds_over

GREAT = 10 ** 29
SPAN = FullSpan(3, 7)


def no_names():
    return [value for value in odd_values() if isinstance(value, str) and value not in ("x", "y", "low")]


def small_heads(rng, names, numbers, many):
    """Some heads of one to three rows over a few integers."""
    tolds, found = tolds_over(numbers), []
    while len(found) < many:
        rows = rng.randint(1, 3)
        try:
            found.append(Head.of(rows, {name: rng.choice(tolds) for name in names}))
        except (BadHead, TooMany):
            pass
    return found


def all_contents(numbers, width, rows):
    """All Lots of so many rows over a few integers and NULL."""
    cells = list(itertools.product((*numbers, None), repeat=width))
    return [Lots.of(some) for some in contents_over(cells, rows)]


class Making(Case):
    def test_attributes(self):
        head = Head(9, y=HoledSpan(1, 4, True, False), x=OpenList(5, 2), a=Blank())
        self.assertTrue(exactly((head.rows, head.names), (9, ("a", "x", "y"))))
        wanted = (("a", None), ("x", 2), ("x", 5), ("y", 1), ("y", None))
        self.assertTrue(exactly(head.wanted, wanted))
        self.assertEqual((len(head), list(head)), (3, ["a", "x", "y"]))
        self.assertEqual([head[name] for name in head], [Blank(), OpenList(2, 5), HoledSpan(1, 4, True, False)])
        self.assertEqual(Head.of(columns={"x": SPAN}, rows=GREAT), Head(rows=GREAT, x=SPAN))
        self.assertIs(type(Head.of(2, {"x": SPAN})), Head)

    def test_names_in_heads(self):
        head = Head(9, y=SPAN, x=SPAN)
        for value in odd_values():
            self.assertIs(value in head, value in ("x", "y"))
            if value not in ("x", "y"):
                self.refuses(NoName(value), lambda: head[value])

    def test_refusals(self):
        for value in odd_values():
            if type(value) is not int or value < 1:
                self.refuses(BadHead("rows"), Head, value)
                self.refuses(BadHead("rows"), Head, value, **{"X": 3})
            if not isinstance(value, Told):
                self.refuses(BadHead("y"), Head, 2, x=SPAN, y=value, z=5)
                self.refuses(BadHead("b"), Head, 2, **{name: value for name in "hgfedcb"})
        self.refuses(BadHead("columns"), Head, 1)
        for name in no_names():
            if name not in ("self", "rows"):
                self.refuses(BadName(name), Head, 1, **{name: 3, "z": SPAN})
        self.refuses(BadName("A"), Head, 1, **{"not": SPAN, "a": SPAN, "C": SPAN, "A": 3})
        self.refuses(TooMany("columns", 3), Head, 1, a=SPAN, b=SPAN, c=SPAN, d=SPAN)
        self.refuses(TooMany("wants", 9), Head, 1, a=FullList(*range(8)), b=SPAN)
        self.refuses(BadHead("b"), Head, 2, c=FullList(*range(4)), b=HoledSpan(1, 2), a=SPAN)
        self.assertEqual(len(Head(7, a=FullList(*range(7)), b=SPAN).wanted), 9)

    def test_of_refusals(self):
        for value in odd_values():
            if not isinstance(value, dict) or not all(isinstance(name, str) for name in value):
                self.refuses(BadHead("columns"), Head.of, "rows", value)
        self.refuses(BadHead("columns"), Head.of, 0, {"x": SPAN, 3: SPAN})
        for name in no_names():
            self.refuses(BadName(name), Head.of, "rows", {"z": 3, name: 3})
        self.refuses(BadName("B"), Head.of, 0, {"x": SPAN, "rows": SPAN, "B": 3})
        self.refuses(BadHead("rows"), Head.of, 0, {})
        self.refuses(BadHead("columns"), Head.of, 1, {})
        self.refuses(BadHead("x"), Head.of, 1, {"x": 3, "y": 3})
        self.refuses(BadHead("x"), Head.of, 1, {"x": SPAN})

    def test_arguments_are_not_changed_and_not_kept(self):
        columns = {"y": SPAN, "x": Blank()}
        head = Head.of(3, columns)
        self.assertEqual(list(columns), ["y", "x"])
        columns["x"] = SPAN
        columns["z"] = SPAN
        self.assertEqual(head, Head(3, x=Blank(), y=SPAN))

    def test_equal(self):
        heads = [Head(3, x=SPAN), Head(4, x=SPAN), Head(3, y=SPAN), Head(3, x=SPAN, y=SPAN), Head(3, x=SPAN + 1),
                 Head(2, x=SPAN), Head(2, x=FullList(3, 7))]
        for at, one in enumerate(heads):
            for k, other in enumerate(heads):
                self.assertIs(one == other, at == k)
                self.assertIs(one != other, at != k)
            self.assertIs(one == str(one), False)
        self.assertEqual(Head(3, y=SPAN, x=Blank()), Head(3, x=Blank(), y=FullSpan(3, 7)))
        for value in odd_values():
            self.assertIs(heads[0] == value, False)

    def test_with_told(self):
        head = Head(2, x=SPAN, y=FullList(1))
        self.assertEqual(head.with_told("x", Blank()), Head(2, x=Blank(), y=FullList(1)))
        self.assertEqual(head, Head(2, x=SPAN, y=FullList(1)))
        for value in odd_values():
            if value not in ("x", "y"):
                self.refuses(NoName(value), head.with_told, value, None)
            if not isinstance(value, Told):
                self.refuses(BadHead("x"), head.with_told, name="x", told=value)
        self.refuses(BadHead("y"), head.with_told, "y", HoledList(1, 2))
        great = Head(9, x=FullList(*range(7)), y=FullList(1))
        self.refuses(TooMany("wants", 9), great.with_told, "y", HoledSpan(1, 2))

    def test_around(self):
        lots = Lots(((5, None), 4), ((2, None), 1))
        self.assertEqual(Head.around(lots, ["x", "y"]), Head(5, x=FullSpan(2, 5), y=Blank()))
        self.assertEqual(Head.around(names=("a",), lots=Lots(((None,), 1), ((4,), GREAT))), Head(GREAT + 1, a=HoledSpan(4, 4)))
        for value in odd_values():
            if not isinstance(value, Lots) or not value:
                self.refuses(BadHead("lots"), Head.around, value, 3)
            self.refuses(BadHead("names"), Head.around, lots, value)
            if value not in ("x", "y", "low"):
                self.refuses(BadHead("names"), Head.around, lots, ["x", value])
        for names in (["y", "x"], ["x", "x"], ["x"], ("x", "y", "z"), {"x": 1, "y": 2}, "xy"):
            self.refuses(BadHead("names"), Head.around, lots, names)


class Fits(Case):
    def test_fits(self):
        head = Head(3, x=SPAN, y=OpenSpan(0, 1, False, True))
        for lots, wanted in (
            (Lots(((3, 0), 2), ((7, 1), 1)), True), (Lots(((3, None), 2), ((7, 1), 1)), True),
            (Lots(((3, 0), 2), ((7, 0), 1)), False), (Lots(((3, 0), 2), ((7, 1), 2)), False),
            (Lots(((3, 1), 1), ((7, 1), 1), ((8, 1), 1)), False), (Lots(((3,), 2), ((7,), 1)), False),
            (Lots(((3, 1, 1), 2), ((7, 1, 1), 1)), False), (Lots(((3, 1), 3)), False), (Lots(), False),
        ):
            self.assertIs(head.fits(lots), wanted)
        for value in odd_values():
            self.assertIs(head.fits(value), False)

    def test_fits_for_all_contents_of_small_heads(self):
        for head in small_heads(random.Random(3), "ab", (0, 1), 60):
            for lots in all_contents((0, 1), 2, head.rows):
                columns = [[row[k] for row, _ in lots] for k in range(2)]
                wanted = all(head[name].fits(values) for name, values in zip(head, columns))
                self.assertIs(head.fits(lots), wanted)

    def test_sample(self):
        rng = random.Random(4)
        heads = small_heads(rng, "abc", (0, 1, 5), 300) + small_heads(rng, "a", (0, 1, 2, 3), 100)
        heads += [Head(GREAT, a=OpenSpan(-GREAT, GREAT, False, False)), Head(9, a=FullList(*range(9)))]
        heads += [Head(1, a=HoledSpan(1, 2, False, False)), Head(GREAT, a=FullList(*range(7)), b=FullSpan(0, 1))]
        for head in heads:
            lots = head.sample()
            self.assertTrue(head.fits(lots), str(head))
            self.assertTrue(len(lots) <= len(head.wanted) + 2)
            self.assertEqual(lots, head.sample())


class Orders(Case):
    def setUp(self):
        self.heads = small_heads(random.Random(7), "ab", (0, 1), 90)
        contents = {rows: all_contents((0, 1), 2, rows) for rows in (1, 2, 3, 4, 5, 6)}
        self.contents = contents
        self.fitting = {str(head): self.fit(head) for head in self.heads}

    def fit(self, head):
        return frozenset(str(lots) for lots in self.contents[head.rows] if head.fits(lots))

    def test_normal(self):
        forms = {}
        for head in self.heads:
            normal = head.normal()
            self.assertEqual(self.fit(normal), self.fitting[str(head)])
            self.assertEqual([normal[name] for name in normal], [head[name].normal(head.rows) for name in head])
            self.assertEqual(forms.setdefault(self.fitting[str(head)], normal), normal)

    def test_orders(self):
        for one, other in itertools.product(self.heads, repeat=2):
            first, second = self.fitting[str(one)], self.fitting[str(other)]
            is_in, is_around = one.rows == other.rows and first <= second, one.rows == other.rows and first >= second
            self.assertIs(one <= other, is_in)
            self.assertIs(one >= other, is_around)
            self.assertIs(one < other, is_in and not is_around)
            self.assertIs(one > other, is_around and not is_in)

    def test_both(self):
        for one, other in itertools.product(self.heads, repeat=2):
            contents = self.fitting[str(one)] & self.fitting[str(other)]
            found = one & other
            if one.rows != other.rows or not contents:
                self.assertIsNone(found)
            else:
                self.assertEqual(self.fit(found), contents)
                self.assertEqual(found.normal(), found)

    def test_together(self):
        rng = random.Random(11)
        for _ in range(60):
            one, other = rng.choice(self.heads), rng.choice(self.heads)
            found = one | other
            self.assertEqual((found.rows, found.normal()), (one.rows + other.rows, found))
            together = {str(Lots.read(a) + Lots.read(b)) for a in self.fitting[str(one)] for b in self.fitting[str(other)]}
            self.assertTrue(all(found.fits(Lots.read(text)) for text in together))
            for name in found:
                merged = one[name].merged(one.rows, other[name], other.rows)
                self.assertEqual(found[name], merged)

    def test_together_is_the_least_normal_head(self):
        heads = small_heads(random.Random(2), "a", (0, 1, 2), 40)
        tolds = tolds_over((0, 1, 2))
        for one, other in itertools.product(heads[:12], heads[12:24]):
            found, rows = one | other, one.rows + other.rows
            together = [a + b for a in self.small_fit(one) for b in self.small_fit(other)]
            self.assertTrue(all(found.fits(lots) for lots in together))
            for told in tolds:
                wider = Head(rows, a=told) if len(told.wants) <= rows else None
                if wider is not None and all(wider.fits(lots) for lots in together):
                    self.assertTrue(found <= wider)

    def small_fit(self, head):
        return [lots for lots in all_contents((0, 1, 2), 1, head.rows) if head.fits(lots)]

    def test_great_heads(self):
        one, other = Head(GREAT, x=FullSpan(0, GREAT)), Head(GREAT, x=OpenSpan(-1, GREAT, False, False))
        self.assertIs(one < other, True)
        self.assertEqual(one & other, one)
        self.assertEqual(str(one | other), f"{2 * GREAT} ; x ~-1 to {GREAT} open")

    def test_refusals(self):
        head = Head(2, x=SPAN)
        for value in [*odd_values(), Head(2, y=SPAN), Head(2, x=SPAN, y=SPAN)]:
            if isinstance(value, Head) and value.names == ("x",):
                continue
            for call in (lambda: head <= value, lambda: head < value, lambda: head >= value, lambda: head > value,
                         lambda: head & value, lambda: head | value):
                self.refuses(BadHead("other"), call)

    def test_too_many_wants(self):
        head = Head(9, x=FullList(*range(9)), y=FullSpan(6, 6, False, False))
        self.refuses(TooMany("wants", 9), head.normal)
        self.refuses(TooMany("wants", 9), lambda: head & head)
        self.refuses(TooMany("wants", 9), lambda: head | head)
        one, other = Head(5, x=FullList(*range(5)), y=FullSpan(0, 1)), Head(9, x=FullList(*range(4, 9)), y=Blank())
        self.refuses(TooMany("wants", 9), lambda: one | other)
        self.assertIs(head <= head, True)
        self.assertIsNone(head & Head(9, x=FullList(*range(8)), y=FullSpan(6, 6, False, False)))


class Texts(Case):
    def test_texts(self):
        for head, text in (
            (Head(3, x=SPAN), "3 ; x 3 to 7"), (Head(1, b=Blank(), a=FullSpan(1, 2, False, False)), "1 ; a ~1 to ~2 ; b blank"),
            (Head(GREAT, x=HoledList(1, -5), y=OpenSpan(0, 1), z=Blank()), f"{GREAT} ; x list -5 1 holed ; y 0 to 1 open ; z blank"),
        ):
            self.assertEqual(str(head), text)
            self.assertEqual(Head.read(text), head)
        for head in small_heads(random.Random(1), "abc", (-1, 0, 3), 200):
            self.assertEqual(Head.read(str(head)), head)

    def test_words_that_cannot_stand(self):
        for text, word in (
            ("", 0), ("0", 0), ("-1 ; x blank", 0), ("03", 0), ("x", 0), ("3", 1), ("3 x", 1), ("3 ;", 2), ("3 ; X blank", 2),
            ("3 ; rows blank", 2), ("3 ; 5", 2), ("3 ; x", 3), ("3 ; x ;", 3), ("3 ; x full", 3), ("3 ; x blank x", 4),
            ("3 ; x blank ;", 5), ("3 ; x blank ; x", 5), ("3 ; x blank ; w", 5), ("3 ; x blank holed", 4),
            ("3 ; x 3 to 7 5", 6), ("3 ; x 3 to 2", 5), ("3 ; x 3 to 7 holed open", 7), ("3 ; x list", 4),
            ("3 ; x list 3 3", 5), ("3 ; x list 3 ; y", 7), ("3 ; x list 3 ; y 3 to", 9), ("3 ; zzzzzzzz blank ;", 5),
            ("3 ; zzzzzzzz blank ; a", 5), ("3 ; x blank ", 4), ("3 ; x blank ; y blank ; z blank ; zz", 12),
        ):
            self.unreadable(Head.read, text, word)

    def test_what_is_no_text(self):
        for value in odd_values():
            self.unreadable(Head.read, value, 0)

    def test_what_is_raised_when_all_words_can_stand(self):
        for text, error in (
            ("1 ; a blank ; b blank ; c blank ; d list 1 2", TooMany("columns", 3)),
            ("1 ; a list 1 2 3 4 5 6 7 8 9 ; b blank", TooMany("wants", 9)),
            ("1 ; a blank ; b list 1 2 ; c list 1 2", BadHead("b")), ("1 ; a 3 to 7", BadHead("a")),
        ):
            self.refuses(error, Head.read, text)
            self.unreadable(Head.read, text + " 5 x", len(text.split(" ")) + ("list" in text[-9:]))

    def test_bent_texts(self):
        words = ("3", "5", "-3", "~3", "0", "to", "list", "blank", "holed", "open", ";", "x", "y", "rows", "", "01")
        texts = ["9 ; x blank", "9 ; x 3 to 5 holed", "9 ; x list -3 0 3 5 ; y ~3 to ~3", "9 ; w blank ; x list 3 ; y 3 to 5"]
        self.check_texts(Head.read, texts, words, (TooMany, BadHead))

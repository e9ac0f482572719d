"""What several tests use: odd values, small column heads, rows, filters, and how errors and examples are checked."""

import itertools
import unittest

from headskip import errors
from headskip.counts import counts
from headskip.covers import Covers
from headskip.desk import Desk
from headskip.errors import BadText, BadValue, TooMany
from headskip.filters import Always, Among, AtMost, Less, Missing, Never, Same
from headskip.heads import Head
from headskip.kinds import Kinds
from headskip.losses import Loss
from headskip.lots import Lots
from headskip.needs import Fewest
from headskip.questions import AtLeast, Greatest
from headskip.readers import OpenFirst
from headskip.settled import Settled, Unsettled
from headskip.shelves import Shelf, Table
from headskip.spots import Limit, Part
from headskip.store import Store
from headskip.sums import Sums
from headskip.tolds import Blank, FullList, FullSpan, HoledList, HoledSpan, OpenList, OpenSpan
from headskip.upkeep import Broken, Come, Merge, Sound, Split, Upkeep

SPANS = (FullSpan, HoledSpan, OpenSpan)
LISTS = (FullList, HoledList, OpenList)


def odd_values():
    """Values of all kinds that may be passed where an error is told; new ones for each call."""
    return [
        None, True, False, 0, 1, -1, 7, 10 ** 59, "", "x", "y", "and", "null", "rows", "self", "X", "x1", "abcdefghi",
        "low", "x < 5", "- ~", "one\ntwo", (), (None,), (1,), (1, 2), ("x",), ((1,), 1), [], [1], [None], ["x"],
        {}, {"x": 1}, {"x": "y"}, {1: "x"}, {"x": [1]}, {(1, None): 2}, [[[[[[[[1]]]]]]]], (True,), ((True,), 1),
        FullSpan(1, 2), Blank(), HoledList(1, 2), Less("x", 5), Always(), Lots(), Lots(((1,), 1)),
        Head(2, x=FullSpan(1, 2)), Limit("x"), Part(("x",), (1,)), Part(1, [2]), Kinds((), (), ()), BadValue(3),
        Covers((0,), (0,)), counts(Head(2, x=FullSpan(1, 2)), Always()), Shelf(Head(2, w=FullSpan(1, 2))), Table(Lots()),
        AtLeast(2, Always()), Greatest("w", Always()), Settled(1, ()), Unsettled(0, 1, 2), Sums(0, 0, Lots(), Lots()),
        Fewest((0,), (), 0, ()), Loss(0, Table(Lots())), OpenFirst(), Upkeep(), Upkeep(leave="keep"), Come(0, 3), Split((3,)), Merge(),
        Sound(True), Broken(()), (Merge(), Come(0, 3)), Store(Upkeep(), "x"), Desk(Store(Upkeep(), "x")),
    ]


class Case(unittest.TestCase):
    """A test case that looks at the class and at the attributes of an error."""

    def refuses(self, wanted, call, *parts, **named):
        """Checks that a call raises just this error."""
        with self.assertRaises(errors.SkipError) as caught:
            call(*parts, **named)
        self.assertIs(type(caught.exception), type(wanted), (caught.exception, wanted, parts))
        self.assertTrue(exactly(vars(caught.exception), vars(wanted)), (vars(caught.exception), vars(wanted), parts))

    def unreadable(self, read, text, word):
        """Checks that a text is refused at a word."""
        self.refuses(BadText(0, word), read, text)

    def check_texts(self, read, texts, vocabulary, refused=TooMany):
        """Checks read for texts with words left out, put in, exchanged and cut off.

        refused are the errors that a class raises when all words can stand.
        """
        for text in texts:
            self.assertEqual(str(read(text)), text)
            for words in bent_texts(text.split(" "), vocabulary):
                self.check_words(read, words, refused)

    def check_words(self, read, words, refused):
        """Checks that a text is read as it stands, or refused at the first word that cannot stand."""
        at = refused_word(read, words, refused)
        if at is None:
            return
        self.assertTrue(0 <= at <= len(words), words)
        if at < len(words):
            self.assertEqual(refused_word(read, words[:at + 1], refused), at, words)
        if at > 0:
            self.assertIn(refused_word(read, words[:at], refused), (None, at), words)


def bent_texts(words, vocabulary):
    """Texts near to one: with words cut off, left out, put in, doubled, exchanged."""
    for at in range(len(words)):
        yield words[:at] or [""]
        yield words[:at] + words[at + 1:] or [""]
        yield words[:at] + [words[at]] + words[at:]
        for word in vocabulary:
            yield words[:at] + [word] + words[at:]
            yield words[:at] + [word] + words[at + 1:]
        if at:
            yield words[:at - 1] + [words[at], words[at - 1]] + words[at + 1:]
    for word in vocabulary:
        yield words + [word]


def refused_word(read, words, refused=TooMany):
    """The word at which a text is refused, None if all its words can stand."""
    text = " ".join(words)
    try:
        if str(read(text)) != text:
            raise AssertionError(f"read otherwise than it stands: {text}")
    except BadText as error:
        if error.line != 0:
            raise AssertionError(text) from error
        return error.word
    except refused:
        return None
    return None


def exactly(one, other):
    """Whether two values are equal, also by the kinds of all that is in them."""
    if type(one) is not type(other):
        return False
    if isinstance(one, (list, tuple)):
        return len(one) == len(other) and all(exactly(a, b) for a, b in zip(one, other))
    if isinstance(one, dict):
        return list(one) == list(other) and all(exactly(one[key], other[key]) for key in one)
    return one == other


def tolds_over(numbers):
    """All spans and lists over some ascending integers, and the blank one."""
    found = [Blank()]
    for low, high in itertools.combinations_with_replacement(numbers, 2):
        for low_reached, high_reached in itertools.product((True, False), repeat=2):
            if low < high or low_reached == high_reached:
                found += [span(low, high, low_reached, high_reached) for span in SPANS]
    for many in range(1, len(numbers) + 1):
        for values in itertools.combinations(numbers, many):
            found += [made(*values) for made in LISTS]
    return found


def contents_over(values, rows):
    """All tuples of so many of these values, whatever their order."""
    return list(itertools.combinations_with_replacement(values, rows))


def random_told(rng, numbers):
    """Any told over some ascending integers."""
    return rng.choice(tolds_over(numbers))


def random_leaf(rng, names, numbers):
    """Any filter without parts."""
    kind = rng.randrange(9)
    name = rng.choice(names)
    if kind == 0:
        return rng.choice((Always(), Never()))
    if kind == 1:
        return Missing(name)
    if kind == 2:
        return Among(name, *rng.sample(numbers, rng.randint(1, min(4, len(numbers)))))
    other = rng.choice(names) if kind < 5 else rng.choice(numbers)
    one, other = (name, other) if rng.randrange(2) else (other, name)
    return rng.choice((Less, AtMost, Same))(one, other)


def random_filter(rng, names, numbers, parts=3):
    """Any filter of at most so many comparisons."""
    test = random_leaf(rng, names, numbers)
    for _ in range(rng.randrange(parts)):
        more = random_leaf(rng, names, numbers)
        more = ~more if rng.randrange(3) == 0 else more
        try:
            test = test & more if rng.randrange(2) else more | test
        except TooMany:
            pass
        test = ~test if rng.randrange(4) == 0 else test
    return test


def run_examples(case, text, names=None):
    """Runs examples as they stand in the document, each behind the ones ahead of it."""
    names = {} if names is None else names
    lines = text.strip("\n").split("\n")
    for at, line in enumerate(lines):
        if not line.startswith(">>> "):
            continue
        code = line[4:]
        wanted = lines[at + 1] if at + 1 < len(lines) and not lines[at + 1].startswith(">>> ") else None
        with case.subTest(code=code):
            run_example(case, code, wanted, names)
    return names


def run_example(case, code, wanted, names):
    """Runs one example, whose row below it tells a value or an error."""
    if wanted is None:
        exec(code, names)
    elif wanted.startswith("raises "):
        error = eval(wanted[len("raises "):], vars(errors).copy())
        case.refuses(error, lambda: eval(code, names))
    else:
        case.assertEqual(repr(eval(code, names)), wanted)

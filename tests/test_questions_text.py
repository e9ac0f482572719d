"""Tests of the texts of questions."""

import random

from headskip.errors import TooMany
from headskip.filters import Always, AtMost, Less, Missing, Never, Same
from headskip.questions import AtLeast, Greatest, Least, Many, Question, Some, Top, Total
from helpers import Case, odd_values, random_filter

VOCABULARY = ("some", "many", "at", "least", "greatest", "total", "top", "where", "x", "in", "rows", "null", "0", "1", "4", "5", "04",
              "-1", "not", "(", "<", "", "always")
TEST = Less("x", 5)


class Texts(Case):
    def test_texts(self):
        for question, text in (
            (Some(TEST), "some where x < 5"), (Many(TEST & ~Missing("y")), "many where ( x < 5 and not y null )"),
            (AtLeast(1, TEST), "at least 1 where x < 5"), (AtLeast(10 ** 40, TEST), f"at least {10 ** 40} where x < 5"),
            (Greatest("x", TEST), "greatest x where x < 5"), (Least("y", Always()), "least y where always"),
            (Total("x", AtMost("x", "y")), "total x where x <= y"), (Top(4, "x", Never()), "top 4 x where never"),
            (Greatest("where", Same("some", "top")), "greatest where where some = top"), (Top(1, "least", TEST), "top 1 least where x < 5"),
            (Least("at", Missing("total")), "least at where total null"), (Total("many", TEST), "total many where x < 5"),
        ):
            self.assertEqual(str(question), text)
            self.assertEqual(Question.read(text), question)
            self.assertIs(type(Question.read(text=text)), type(question))

    def test_all_kinds_are_read(self):
        rng = random.Random(91)
        for _ in range(300):
            test = random_filter(rng, ["x", "y", "z"], [-7, 0, 3, 10 ** 29], 8)
            for question in (Some(test), Many(test), AtLeast(rng.randint(1, 99), test), Greatest("x", test), Least("w", test),
                             Total("y", test), Top(rng.randint(1, 4), "z", test)):
                self.assertEqual(Question.read(str(question)), question)

    def test_words_that_cannot_stand(self):
        for text, word in (
            ("", 0), ("all where always", 0), ("where", 0), ("Some where always", 0), ("some", 1), ("some x where always", 1),
            ("some where", 2), ("some where x", 3), ("some where always always", 3), ("some where ( x < 3", 6), ("some  where always", 1),
            ("many", 1), ("many 3 where always", 1), ("at", 1), ("at most 3 where always", 1), ("at least", 2), ("at least where", 2),
            ("at least 0 where always", 2), ("at least -1 where always", 2), ("at least 03 where always", 2), ("at least 3", 3),
            ("at least 3 x where always", 3), ("at least 3 where", 4), ("greatest", 1), ("greatest where", 2),
            ("greatest where always", 2), ("greatest rows where always", 1), ("greatest X where always", 1), ("greatest 3 where", 1),
            ("greatest abcdefghi where", 1), ("least", 1), ("least x", 2), ("least x y", 2), ("total in where always", 1),
            ("total x where not not x < 3", 4), ("top", 1), ("top 0 x where always", 1), ("top 5 x where always", 1),
            ("top x where always", 1), ("top 2", 2), ("top 2 3 where always", 2), ("top 2 x", 3), ("top 2 x x where", 3),
            ("top 2 x where 3 < 4", 6), ("top 04 x where always", 1), ("top 4 x where x < 3 ", 7), ("some\nwhere always", 0),
        ):
            self.unreadable(Question.read, text, word)

    def test_words_left_out_put_in_exchanged(self):
        texts = ["some where always", "many where not x < 5", "at least 12 where x in 1 4", "greatest x where ( x = y or x null )",
                 "least y where y null", "total x where 3 < x", "top 3 x where never"]
        self.check_texts(Question.read, texts, VOCABULARY)

    def test_any_other_value(self):
        for value in odd_values():
            if not isinstance(value, str) or value in ("", "x < 5", "one\ntwo", "- ~"):
                self.unreadable(Question.read, value, 0)

    def test_what_the_filter_raises(self):
        for text, error in (
            ("top 2 x where ( x in 1 2 3 and x in 4 5 )", TooMany("constants", 4)),
            ("some where ( x = y and y = z )", TooMany("linked", 2)),
            ("many where ( ( ( ( ( ( ( ( always and always ) and always ) and always ) and always ) and always ) and always ) or never )", None),
            ("many where ( ( ( ( ( ( always and always ) and always ) and always ) and always ) and always ) "
             "and ( ( always or never ) or never ) )", TooMany("comparisons", 8)),
        ):
            if error is None:
                self.unreadable(Question.read, text, 9)
            else:
                self.refuses(error, Question.read, text)
        self.unreadable(Question.read, "some where ( x = y and y = z ) )", 11)

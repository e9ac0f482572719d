"""Questions: what is asked about the matches of a filter in a whole table."""

from headskip.errors import BadLots, BadName, BadQuestion, BadShelf, BadTable, NoName
from headskip.filters import Filter, filter_of_parts
from headskip.lots import Lots
from headskip.matches import matched_pairs, matched_values
from headskip.question_words import MOST_OF_TOP, question_parts
from headskip.shelves import Table
from headskip.values import MOST_COLUMNS, are_ascending_names, is_integer, is_name
from headskip.words import check_end, words_of


class Question:
    """The base of all questions. What has no column asks how many rows match.

    The classes that are made have the listed methods in their own bodies, too: L5 of the language asks for this.
    """

    def __init__(self, test, asked, quota):
        if not isinstance(test, Filter):
            raise BadQuestion("test")
        self.test = test
        self.asked = asked
        self.quota = quota

    @property
    def columns(self):
        """The ascending tuple of all columns that it names."""
        return columns_asked(self)

    def __call__(self, shelf, table):
        return answer_at(self, shelf, table)

    def on(self, names, *blocks):
        """The answer on Lots with columns of these names."""
        return answer_in(self, names, blocks)

    def joined(self, *answers):
        """The answer on all blocks, of the answers on each."""
        return self.answer_of_answers(answers)

    def found_in(self, names, blocks):
        """The numbers of the matching rows of blocks."""
        return [times for lots in blocks for _, times in matched_pairs(lots, names, self.test)]

    def words(self):
        """The words of its text ahead of `where`."""
        return [self.WORD]

    def __eq__(self, other):
        # No two unlike questions have one text.
        return isinstance(other, Question) and str(self) == str(other)

    def __str__(self):
        return " ".join([*self.words(), "where", str(self.test)])

    @classmethod
    def read(cls, text):
        """The question with this text."""
        words = words_of(text)
        parts, behind = question_parts(words, 0)
        check_end(words, behind)
        return question_of_parts(parts)


class OfColumn(Question):
    """A question about the integers of a column."""

    def __init__(self, column, test, quota):
        if not is_name(column):
            raise BadName(column)
        Question.__init__(self, test, column, quota)

    def found_in(self, names, blocks):
        """The pairs of an integer of a match and a number of rows that have it."""
        return [pair for lots in blocks for pair in matched_values(lots, names, self.test, self.asked)]

    def words(self):
        """The words of its text ahead of `where`."""
        return [self.WORD, self.asked]


class Some(Question):
    """Whether some row matches."""

    WORD = "some"

    def __init__(self, test):
        Question.__init__(self, test, None, 1)

    @property
    def columns(self):
        """The ascending tuple of all columns that it names."""
        return columns_asked(self)

    def __call__(self, shelf, table):
        return answer_at(self, shelf, table)

    def on(self, names, *blocks):
        """The answer on Lots with columns of these names."""
        return answer_in(self, names, blocks)

    def joined(self, *answers):
        """The answer on all blocks, of the answers on each."""
        return self.answer_of_answers(answers)

    def answer_to(self, found):
        """The answer, by the numbers of the matching rows."""
        return len(found) > 0

    def answer_of_answers(self, answers):
        """The answer on all blocks."""
        return any([answer is True for answer in answers])


class Many(Question):
    """How many rows match."""

    WORD = "many"

    def __init__(self, test):
        Question.__init__(self, test, None, None)

    @property
    def columns(self):
        """The ascending tuple of all columns that it names."""
        return columns_asked(self)

    def __call__(self, shelf, table):
        return answer_at(self, shelf, table)

    def on(self, names, *blocks):
        """The answer on Lots with columns of these names."""
        return answer_in(self, names, blocks)

    def joined(self, *answers):
        """The answer on all blocks, of the answers on each."""
        return self.answer_of_answers(answers)

    def answer_to(self, found):
        """The answer, by the numbers of the matching rows."""
        return sum(found)

    def answer_of_answers(self, answers):
        """The answer on all blocks."""
        return sum(answers)


class AtLeast(Question):
    """Whether at least so many rows match."""

    def __init__(self, many, test):
        _check_many(many, None)
        Question.__init__(self, test, None, many)

    @property
    def columns(self):
        """The ascending tuple of all columns that it names."""
        return columns_asked(self)

    def __call__(self, shelf, table):
        return answer_at(self, shelf, table)

    def on(self, names, *blocks):
        """The answer on Lots with columns of these names."""
        return answer_in(self, names, blocks)

    def joined(self, *answers):
        """The answer on all blocks, of the answers on each."""
        return self.answer_of_answers(answers)

    def answer_to(self, found):
        """The answer, by the numbers of the matching rows."""
        return sum(found) >= self.quota

    def answer_of_answers(self, answers):
        """The answer on all blocks; only for one match the answers on each tell it."""
        if self.quota > 1:
            raise BadQuestion("joined")
        return any([answer is True for answer in answers])

    def words(self):
        """The words of its text ahead of `where`."""
        return ["at", "least", str(self.quota)]


class Greatest(OfColumn):
    """The greatest value of a column among the matches, None without one."""

    WORD = "greatest"

    def __init__(self, column, test):
        OfColumn.__init__(self, column, test, 1)

    @property
    def columns(self):
        """The ascending tuple of all columns that it names."""
        return columns_asked(self)

    def __call__(self, shelf, table):
        return answer_at(self, shelf, table)

    def on(self, names, *blocks):
        """The answer on Lots with columns of these names."""
        return answer_in(self, names, blocks)

    def joined(self, *answers):
        """The answer on all blocks, of the answers on each."""
        return self.answer_of_answers(answers)

    def answer_to(self, found):
        """The answer, by the pairs of an integer and a number of rows."""
        return max([int(value) for value, _ in found], default=None)

    def answer_of_answers(self, answers):
        """The answer on all blocks."""
        return max([int(answer) for answer in answers if answer is not None], default=None)


class Least(OfColumn):
    """The least value of a column among the matches, None without one."""

    WORD = "least"

    def __init__(self, column, test):
        OfColumn.__init__(self, column, test, 1)

    @property
    def columns(self):
        """The ascending tuple of all columns that it names."""
        return columns_asked(self)

    def __call__(self, shelf, table):
        return answer_at(self, shelf, table)

    def on(self, names, *blocks):
        """The answer on Lots with columns of these names."""
        return answer_in(self, names, blocks)

    def joined(self, *answers):
        """The answer on all blocks, of the answers on each."""
        return self.answer_of_answers(answers)

    def answer_to(self, found):
        """The answer, by the pairs of an integer and a number of rows."""
        return min([int(value) for value, _ in found], default=None)

    def answer_of_answers(self, answers):
        """The answer on all blocks."""
        return min([int(answer) for answer in answers if answer is not None], default=None)


class Total(OfColumn):
    """The sum of the values of a column over the matches, 0 without one."""

    WORD = "total"

    def __init__(self, column, test):
        OfColumn.__init__(self, column, test, None)

    @property
    def columns(self):
        """The ascending tuple of all columns that it names."""
        return columns_asked(self)

    def __call__(self, shelf, table):
        return answer_at(self, shelf, table)

    def on(self, names, *blocks):
        """The answer on Lots with columns of these names."""
        return answer_in(self, names, blocks)

    def joined(self, *answers):
        """The answer on all blocks, of the answers on each."""
        return self.answer_of_answers(answers)

    def answer_to(self, found):
        """The answer, by the pairs of an integer and a number of rows."""
        return sum([value * times for value, times in found])

    def answer_of_answers(self, answers):
        """The answer on all blocks."""
        return sum(answers)


class Top(OfColumn):
    """The tuple of the greatest values of a column among the matches, descending, each as often as it stands there."""

    WORD = "top"

    def __init__(self, many, column, test):
        _check_many(many, MOST_OF_TOP)
        OfColumn.__init__(self, column, test, many)

    @property
    def columns(self):
        """The ascending tuple of all columns that it names."""
        return columns_asked(self)

    def __call__(self, shelf, table):
        return answer_at(self, shelf, table)

    def on(self, names, *blocks):
        """The answer on Lots with columns of these names."""
        return answer_in(self, names, blocks)

    def joined(self, *answers):
        """The answer on all blocks, of the answers on each."""
        return self.answer_of_answers(answers)

    def answer_to(self, found):
        """The answer, by the pairs of an integer and a number of rows."""
        # More of one value than are asked for change nothing, and there can be very many.
        return self.greatest_of([value for value, times in found for _ in range(min(int(times), self.quota))])

    def answer_of_answers(self, answers):
        """The answer on all blocks."""
        return self.greatest_of([value for answer in answers for value in answer])

    def greatest_of(self, numbers):
        """The greatest ones of some integers, as many as are asked for."""
        return tuple(sorted([int(number) for number in numbers], reverse=True)[:self.quota])

    def words(self):
        """The words of its text ahead of `where`."""
        return [self.WORD, str(self.quota), self.asked]


def question_of_parts(parts):
    """The question that was read as these parts."""
    word, number, column, test_parts = parts
    test = filter_of_parts(test_parts)
    if word == "some":
        return Some(test)
    if word == "many":
        return Many(test)
    if word == "at":
        return AtLeast(number, test)
    if word == "greatest":
        return Greatest(column, test)
    if word == "least":
        return Least(column, test)
    if word == "total":
        return Total(column, test)
    return Top(number, column, test)


def columns_asked(question):
    """The ascending tuple of all columns that a question names."""
    asked = () if question.asked is None else (question.asked,)
    return tuple(sorted(set(question.test.columns + asked)))


def answer_at(question, shelf, table):
    """The answer on a table that fits a shelf."""
    check_table(question, shelf, table)
    return question.answer_to(question.found_in(shelf.names, list(table)))


def answer_in(question, names, blocks):
    """The answer on Lots with columns of these names."""
    if not isinstance(names, tuple) or not are_ascending_names(names) or not 1 <= len(names) <= MOST_COLUMNS:
        raise BadShelf("names")
    check_columns_asked(question, names)
    for at, lots in enumerate(blocks):
        if not isinstance(lots, Lots) or (lots.rows > 0 and lots.width != len(names)):
            raise BadLots(at)
    return question.answer_to(question.found_in(names, blocks))


def check_columns_asked(question, names):
    """Raises NoName with the least column of the question that is none of these names."""
    for name in columns_asked(question):
        if name not in names:
            raise NoName(name)


def check_table(question, shelf, table):
    """Raises what the question raises for a shelf and a table."""
    check_columns_asked(question, shelf.names)
    if not isinstance(table, Table) or len(table) != len(shelf):
        raise BadTable(None)
    for at, head in enumerate(shelf):
        if not head.fits(table[at]):
            raise BadTable(at)


def _check_many(many, most):
    if not is_integer(many) or many < 1 or (most is not None and many > most):
        raise BadQuestion("many")

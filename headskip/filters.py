"""Filters: what is asked of a row, with three truths."""

from headskip.errors import BadFilter, BadName, BadRow, BadValue, NoName, TooMany
from headskip.filter_words import filter_parts
from headskip.links import MOST_CONSTANTS, check_whole, columns_of, constants_of, links_of
from headskip.values import ascending, is_integer, is_name, is_value
from headskip.words import check_end, words_of


class Filter:
    """The base of all filters. notes tells of each comparison its columns and its integers [links.py]."""

    def __init__(self, notes):
        self.notes = notes

    @property
    def columns(self):
        """The ascending tuple of the columns."""
        return columns_of(self.notes)

    @property
    def constants(self):
        """The ascending tuple of the integers."""
        return constants_of(self.notes)

    @property
    def links(self):
        """The ascending tuple of the ascending pairs of unlike columns that are compared."""
        return links_of(self.notes)

    def truth(self, row):
        """True, False or None (unknown) for a dict from names of columns to values."""
        if not isinstance(row, dict) or not all([is_name(name) and is_value(row[name]) for name in row]):
            raise BadRow("row")
        for name in self.columns:
            if name not in row:
                raise NoName(name)
        return self.truth_in(row)

    def __call__(self, row):
        return self.truth(row) is True

    def renamed(self, names):
        """The filter with other names of columns."""
        if not isinstance(names, dict) or not all([is_name(name) and is_name(names[name]) for name in names]):
            raise BadFilter("names")
        columns = self.columns
        if len(set([names.get(name, name) for name in columns])) < len(columns):
            raise BadFilter("names")
        return self.changed(names, 1, 0)

    def shifted(self, by):
        """The filter with each integer greater by an integer."""
        if not is_integer(by):
            raise BadValue(by)
        return self.changed({}, 1, by)

    def mirrored(self):
        """The filter for the rows of the negated values."""
        return self.changed({}, -1, 0)

    def __and__(self, other):
        _check_joined(self, other)
        return Both(self, other)

    def __or__(self, other):
        _check_joined(self, other)
        return Either(self, other)

    def __invert__(self):
        return self.inner if isinstance(self, Turned) else Turned(self)

    def __eq__(self, other):
        # No two unlike filters have one text.
        return isinstance(other, Filter) and str(self) == str(other)

    def __len__(self):
        return len(self.notes)

    def __str__(self):
        return " ".join(self.words())

    @classmethod
    def read(cls, text):
        """The filter with this text."""
        words = words_of(text)
        parts, behind = filter_parts(words, 0)
        check_end(words, behind)
        return filter_of_parts(parts)


class Compared(Filter):
    """A comparison of two terms, each the name of a column or an integer."""

    def __init__(self, one, other):
        _check_compared(one, other)
        self.one = one
        self.other = other
        names = tuple([term for term in (one, other) if isinstance(term, str)])
        numbers = tuple([term for term in (one, other) if not isinstance(term, str)])
        Filter.__init__(self, ((names, numbers),))

    def changed(self, names, factor, by):
        """With other names and with integers times a factor, 1 or -1, and greater by an integer."""
        one = _changed_term(self.one, names, factor, by)
        other = _changed_term(self.other, names, factor, by)
        if factor < 0:
            one, other = other, one
        return _compared(self.SIGN, one, other)

    def truth_in(self, row):
        """The truth for a row that has all columns."""
        one = row[self.one] if isinstance(self.one, str) else self.one
        other = row[self.other] if isinstance(self.other, str) else self.other
        if one is None or other is None:
            return None
        return self.compare(one, other)

    def words(self):
        """The words of its text."""
        return [str(self.one), self.SIGN, str(self.other)]


class Less(Compared):
    """one < other."""

    SIGN = "<"

    def __init__(self, one, other):
        Compared.__init__(self, one, other)

    def compare(self, one, other):
        """Whether it holds for two integers."""
        return one < other


class AtMost(Compared):
    """one <= other."""

    SIGN = "<="

    def __init__(self, one, other):
        Compared.__init__(self, one, other)

    def compare(self, one, other):
        """Whether it holds for two integers."""
        return one <= other


class Same(Compared):
    """one = other."""

    SIGN = "="

    def __init__(self, one, other):
        Compared.__init__(self, one, other)

    def compare(self, one, other):
        """Whether it holds for two integers."""
        return one == other


class Picked(Filter):
    """A comparison of one column."""

    def __init__(self, column, numbers):
        self.column = column
        Filter.__init__(self, (((column,), numbers),))


class Among(Picked):
    """The column has one of some integers."""

    def __init__(self, column, *values):
        _check_among(column, values)
        self.picked = ascending(values)
        Picked.__init__(self, column, self.picked)

    def changed(self, names, factor, by):
        """With another name and with integers times a factor, 1 or -1, and greater by an integer."""
        values = [_changed_term(value, names, factor, by) for value in self.picked]
        column = names.get(self.column, self.column)
        return Among(column, *values)

    def truth_in(self, row):
        """The truth for a row that has the column."""
        value = row[self.column]
        return None if value is None else value in self.picked

    def words(self):
        """The words of its text."""
        return [self.column, "in", *[str(value) for value in self.picked]]


class Missing(Picked):
    """The column is NULL."""

    def __init__(self, column):
        if not is_name(column):
            raise BadName(column)
        Picked.__init__(self, column, ())

    def changed(self, names, factor, by):
        """With another name."""
        return Missing(names.get(self.column, self.column))

    def truth_in(self, row):
        """The truth for a row that has the column."""
        return row[self.column] is None

    def words(self):
        """The words of its text."""
        return [self.column, "null"]


class Joined(Filter):
    """Two filters, joined by a word."""

    def __init__(self, one, other):
        self.one = one
        self.other = other
        Filter.__init__(self, one.notes + other.notes)

    def words(self):
        """The words of its text."""
        return ["(", *self.one.words(), self.JOINT, *self.other.words(), ")"]


class Both(Joined):
    """Both parts."""

    JOINT = "and"

    def changed(self, names, factor, by):
        """With both parts changed."""
        return Both(self.one.changed(names, factor, by), self.other.changed(names, factor, by))

    def truth_in(self, row):
        """False if a part is false, otherwise unknown if a part is."""
        one = self.one.truth_in(row)
        if one is False:
            return False
        other = self.other.truth_in(row)
        return one if other is True else other


class Either(Joined):
    """One part at least."""

    JOINT = "or"

    def changed(self, names, factor, by):
        """With both parts changed."""
        return Either(self.one.changed(names, factor, by), self.other.changed(names, factor, by))

    def truth_in(self, row):
        """True if a part is true, otherwise unknown if a part is."""
        one = self.one.truth_in(row)
        if one is True:
            return True
        other = self.other.truth_in(row)
        return one if other is False else other


class Turned(Filter):
    """The opposite of a filter."""

    def __init__(self, inner):
        self.inner = inner
        Filter.__init__(self, inner.notes)

    def changed(self, names, factor, by):
        """With what is turned changed."""
        return Turned(self.inner.changed(names, factor, by))

    def truth_in(self, row):
        """The opposite truth; that of unknown is unknown."""
        truth = self.inner.truth_in(row)
        return None if truth is None else not truth

    def words(self):
        """The words of its text."""
        return ["not", *self.inner.words()]


class Fixed(Filter):
    """The same truth for each row."""

    def __init__(self):
        Filter.__init__(self, (((), ()),))

    def changed(self, names, factor, by):
        """The same filter: there is nothing to change."""
        return self

    def truth_in(self, row):
        """The truth for any row."""
        return self.TRUTH

    def words(self):
        """The words of its text."""
        return ["always" if self.TRUTH else "never"]


class Always(Fixed):
    """True for each row."""

    TRUTH = True

    def __init__(self):
        Fixed.__init__(self)


class Never(Fixed):
    """False for each row."""

    TRUTH = False

    def __init__(self):
        Fixed.__init__(self)


def filter_of_parts(parts):
    """The filter that was read as these parts, made from the left to the right, inner parts first."""
    word = parts[0]
    if word == "not":
        return ~filter_of_parts(parts[1])
    if word == "and":
        return filter_of_parts(parts[1]) & filter_of_parts(parts[2])
    if word == "or":
        return filter_of_parts(parts[1]) | filter_of_parts(parts[2])
    if word == "in":
        column, values = parts[1:]
        return Among(column, *values)
    if word == "null":
        return Missing(parts[1])
    if word == "always":
        return Always()
    if word == "never":
        return Never()
    return _compared(word, parts[1], parts[2])


def _compared(sign, one, other):
    if sign == "<":
        return Less(one, other)
    if sign == "<=":
        return AtMost(one, other)
    return Same(one, other)


def _changed_term(term, names, factor, by):
    if isinstance(term, str):
        return names.get(term, term)
    return factor * term + by


def _check_compared(one, other):
    if not is_name(one) and not is_integer(one):
        raise BadFilter("one")
    if not is_name(other) and not is_integer(other):
        raise BadFilter("other")
    if is_integer(one) and is_integer(other):
        raise BadFilter("column")


def _check_among(column, values):
    if not is_name(column):
        raise BadName(column)
    for at, value in enumerate(values):
        if not is_integer(value):
            raise BadFilter(at)
    if len(values) == 0:
        raise BadFilter("values")
    if len(set(values)) > MOST_CONSTANTS:
        raise TooMany("constants", MOST_CONSTANTS)


def _check_joined(one, other):
    if not isinstance(other, Filter):
        raise BadFilter("with")
    check_whole(one.notes + other.notes)

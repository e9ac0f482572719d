"""Rows that stand for all rows: made of the values at and near the integers that a filter and a head tell."""

from headskip.errors import BadName, BadValue, NoName, TooMany
from headskip.links import constants_beside, linked_with
from headskip.tolds import Listed
from headskip.values import MOST_COLUMNS, are_ascending_names, is_integer, is_name, is_row


class Limit:
    """Of the rows only those whose value in a column is an integer from low to high match."""

    def __init__(self, column, low=None, high=None):
        if not is_name(column):
            raise BadName(column)
        if low is not None and not is_integer(low):
            raise BadValue(low)
        if high is not None and not is_integer(high):
            raise BadValue(high)
        self.column = column
        self.low = low
        self.high = high

    def lets(self, value):
        """Whether a value of the column is an integer within the limit."""
        if value is None or (self.low is not None and value < self.low):
            return False
        return self.high is None or value <= self.high

    def __eq__(self, other):
        if not isinstance(other, Limit) or self.column != other.column:
            return False
        return self.low == other.low and self.high == other.high


class Part:
    """A row at which two filters part: a paper that is false."""

    def __init__(self, names, row):
        self.names = names
        self.row = row

    def __bool__(self):
        return False

    def __eq__(self, other):
        return isinstance(other, Part) and self.names == other.names and self.row == other.row


def spots(head, test, column, limit=None):
    """The ascending tuple of the spots of a column."""
    check_columns(head, test, limit)
    if column not in head:
        raise NoName(column)
    return _head_spots(head, test, column, limit)


def deciding_rows(head, test, limit=None):
    """All rows made of spots, ascending."""
    check_columns(head, test, limit)
    columns = [_head_spots(head, test, name, limit) for name in head.names]
    yield from rows_made_of(columns)


def within(one, other):
    """None if each row that matches one matches other, too; otherwise the first Part."""
    for names, row, first, second in truths_of_both(one, other):
        if first is True and second is not True:
            return Part(names, row)
    return None


def alike(one, other):
    """None if the same rows match both; otherwise the first Part."""
    for names, row, first, second in truths_of_both(one, other):
        if (first is True) != (second is True):
            return Part(names, row)
    return None


def same_truth(one, other):
    """None if both have the same truth for all rows; otherwise the first Part."""
    for names, row, first, second in truths_of_both(one, other):
        if first != second:
            return Part(names, row)
    return None


def shows_part(one, other, paper):
    """Whether any value is a Part that shows that a row matches one and not other."""
    if not isinstance(paper, Part) or not isinstance(paper.names, tuple) or not is_row(paper.row):
        return False
    if not are_ascending_names(paper.names) or len(paper.names) != len(paper.row):
        return False
    if not all([name in paper.names for name in one.columns + other.columns]):
        return False
    row = dict(zip(paper.names, paper.row))
    return one.truth_in(row) is True and other.truth_in(row) is not True


def check_columns(head, test, limit):
    """Raises NoName for a column of the filter, then of the limit, that the head lacks."""
    for name in test.columns:
        if name not in head:
            raise NoName(name)
    if limit is not None and limit.column not in head:
        raise NoName(limit.column)


def rows_made_of(columns):
    """All rows with a value of each of some columns, ascending where these are."""
    begun = [()]
    for values in columns[:-1]:
        begun = [(*row, value) for row in begun for value in values]
    for row in begun:
        for value in columns[-1]:
            yield (*row, value)


def truths_of_both(one, other):
    """The columns of two filters, a row made of their spots, and both truths, for all such rows, ascending."""
    notes = one.notes + other.notes
    names = tuple(sorted(set(one.columns + other.columns))) or ("a",)
    if len(names) > MOST_COLUMNS:
        raise TooMany("columns", MOST_COLUMNS)
    beside = constants_beside(notes)
    links = one.links + other.links
    columns = [(*_integers_near(linked_with(name, links), beside), None) for name in names]
    for row in rows_made_of(columns):
        named = dict(zip(names, row))
        yield names, row, one.truth_in(named), other.truth_in(named)


def _head_spots(head, test, column, limit):
    linked = linked_with(column, test.links)
    beside = constants_beside(test.notes) + _limit_marks(limit)
    beside = beside + [(name, mark) for name in linked for mark in _told_marks(head[name])]
    told = head[column]
    return tuple([value for value in (*_integers_near(linked, beside), None) if value in told])


def _integers_near(linked, beside):
    """The marks of linked columns, and as many integers at each side of them as there are such columns."""
    depth = len(linked)
    marks = [mark for name, mark in beside if name in linked]
    if not marks:
        return list(range(depth))
    return sorted(set([mark + step for mark in marks for step in range(-depth, depth + 1)]))


def _limit_marks(limit):
    if limit is None:
        return []
    return [(limit.column, end) for end in (limit.low, limit.high) if end is not None]


def _told_marks(told):
    if told.low is None:
        return ()
    if isinstance(told, Listed):
        return told.listed
    return (told.low, told.high)

"""What is known of a block without a read: how many rows it has, and a Told for each column."""

from headskip.errors import BadHead, BadName, NoName, TooMany
from headskip.head_words import head_parts
from headskip.lots import Lots
from headskip.tolds import Told, told_of_parts
from headskip.values import MOST_COLUMNS, are_ascending_names, is_integer, is_name
from headskip.words import check_end, words_of

MOST_WANTS = 9


class Head:
    """The head of a block."""

    def __init__(self, rows, **columns):
        _check_columns(rows, columns)
        names = sorted(set(list(columns)))
        wanted = [(name, want) for name in names for want in columns[name].wants]
        if len(wanted) > MOST_WANTS:
            raise TooMany("wants", MOST_WANTS)
        for name in names:
            if len(columns[name].wants) > rows:
                raise BadHead(name)
        self.rows = rows
        self.names = tuple(names)
        self.wanted = tuple(wanted)
        self.tolds = {name: columns[name] for name in names}

    @classmethod
    def of(cls, rows, columns):
        """The Head with a dict from names to Tolds."""
        if not isinstance(columns, dict) or not all([isinstance(name, str) for name in columns]):
            raise BadHead("columns")
        _check_names(columns)
        return cls(rows, **columns)

    def __getitem__(self, at):
        if at not in self:
            raise NoName(at)
        return self.tolds[at]

    def __contains__(self, x):
        return isinstance(x, str) and x in self.tolds

    def __len__(self):
        return len(self.names)

    def __iter__(self):
        return iter(self.names)

    def fits(self, lots):
        """Whether any value is a Lots that fits."""
        if not isinstance(lots, Lots) or lots.rows != self.rows or lots.width != len(self.names):
            return False
        return all([self.tolds[name].fits([row[k] for row, _ in lots]) for k, name in enumerate(self.names)])

    def sample(self):
        """A Lots that fits: each row meets the next want of each column, as long as there are some."""
        tolds = [self.tolds[name] for name in self.names]
        most = max([len(told.wants) for told in tolds])
        pairs = [(tuple([_sample_value(told, k) for told in tolds]), 1) for k in range(most)]
        if self.rows > most:
            pairs.append((tuple([_sample_value(told, most) for told in tolds]), self.rows - most))
        return Lots(*pairs)

    def normal(self):
        """The Head with the normal Tolds."""
        tolds = {name: self.tolds[name].normal(self.rows) for name in self.names}
        return Head(self.rows, **tolds)

    def __le__(self, other):
        _check_other(self, other)
        return _is_in(self, other)

    def __lt__(self, other):
        _check_other(self, other)
        return _is_in(self, other) and not _is_in(other, self)

    def __ge__(self, other):
        _check_other(self, other)
        return _is_in(other, self)

    def __gt__(self, other):
        _check_other(self, other)
        return _is_in(other, self) and not _is_in(self, other)

    def __and__(self, other):
        _check_other(self, other)
        if self.rows != other.rows:
            return None
        tolds = {name: self.tolds[name].both(other.tolds[name], self.rows) for name in self.names}
        if any([tolds[name] is None for name in self.names]):
            return None
        return Head(self.rows, **tolds)

    def __or__(self, other):
        _check_other(self, other)
        rows = self.rows + other.rows
        tolds = {name: self.tolds[name].merged(self.rows, other.tolds[name], other.rows) for name in self.names}
        return Head(rows, **tolds)

    def with_told(self, name, told):
        """The Head with another Told for a column."""
        if name not in self:
            raise NoName(name)
        tolds = {**self.tolds, name: told}
        return Head(self.rows, **tolds)

    @staticmethod
    def around(lots, names):
        """The Head with the narrowest spans for some contents."""
        if not isinstance(lots, Lots) or lots.rows == 0:
            raise BadHead("lots")
        if not are_ascending_names(names) or len(names) != lots.width:
            raise BadHead("names")
        tolds = {name: Told.span_of([row[k] for row, _ in lots]) for k, name in enumerate(names)}
        return Head(lots.rows, **tolds)

    def __eq__(self, other):
        # No two unlike heads have one text.
        return isinstance(other, Head) and str(self) == str(other)

    def __str__(self):
        columns = [f"{name} {str(self.tolds[name])}" for name in self.names]
        return " ; ".join([str(self.rows), *columns])

    @classmethod
    def read(cls, text):
        """The Head with this text."""
        words = words_of(text)
        rows, parts, behind = head_parts(words, 0)
        check_end(words, behind)
        tolds = {name: told_of_parts(parts[name]) for name in parts}
        return cls(rows, **tolds)


def _check_names(columns):
    for name in sorted(set(list(columns))):
        if not is_name(name):
            raise BadName(name)


def _check_columns(rows, columns):
    if not is_integer(rows) or rows < 1:
        raise BadHead("rows")
    if len(columns) == 0:
        raise BadHead("columns")
    _check_names(columns)
    for name in sorted(set(list(columns))):
        if not isinstance(columns[name], Told):
            raise BadHead(name)
    if len(columns) > MOST_COLUMNS:
        raise TooMany("columns", MOST_COLUMNS)


def _check_other(head, other):
    if not isinstance(other, Head) or other.names != head.names:
        raise BadHead("other")


def _is_in(one, other):
    """Whether other has as many rows and lets all contents that one lets."""
    if one.rows != other.rows:
        return False
    return all([one.tolds[name].is_in(other.tolds[name], one.rows) for name in one.names])


def _sample_value(told, k):
    """The want with this index, otherwise any value that is let."""
    if k < len(told.wants):
        return told.wants[k]
    return told.low

"""The contents of a block: rows, each with how often it stands there."""

from headskip.errors import BadFilter, BadLots, BadRow, NoName, TooMany
from headskip.filters import Filter
from headskip.lots_words import lots_parts
from headskip.values import ascending, ascending_rows, is_index, is_integer, is_name, is_row
from headskip.words import check_end, words_of

MOST_PAIRS = 40


class Lots:
    """Rows of values in the order of the names of their columns, each with a number of times."""

    def __init__(self, *pairs):
        _check_pairs(pairs)
        counts = {}
        for row, times in pairs:
            counts[row] = counts.get(row, 0) + times
        if len(counts) > MOST_PAIRS:
            raise TooMany("pairs", MOST_PAIRS)
        self.pairs = tuple([(row, counts[row]) for row in ascending_rows(list(counts))])
        self.rows = sum([times for _, times in pairs])
        self.width = len(pairs[0][0]) if pairs else 0

    @staticmethod
    def of(rows):
        """The Lots of a list or tuple of rows."""
        if not isinstance(rows, (list, tuple)):
            raise BadLots("rows")
        pairs = [(row, 1) for row in rows]
        return Lots(*pairs)

    def times(self, row):
        """How many rows are like any value."""
        if not is_row(row):
            return 0
        return sum([times for other, times in self.pairs if other == row])

    def without(self, row, times=1):
        """The Lots with so many rows like this one taken out."""
        if not is_integer(times) or times < 1:
            raise BadRow("times")
        many = self.times(row)
        if many < times:
            raise BadRow("row")
        others = [pair for pair in self.pairs if pair[0] != row]
        if many > times:
            others.append((row, many - times))
        return Lots(*others)

    def tally(self, k):
        """A dict from the values of a column, ascending, to how many rows have them."""
        if not is_index(k, self.width):
            raise BadLots("column")
        found = {value: 0 for value in ascending([row[k] for row, _ in self.pairs])}
        for row, times in self.pairs:
            found[row[k]] += times
        return found

    def where(self, test, *names):
        """The Lots of the rows that match, the columns having these names."""
        if not isinstance(test, Filter):
            raise BadFilter("test")
        if not _can_name(names, self.width):
            raise BadLots("names")
        for name in test.columns:
            if name not in names:
                raise NoName(name)
        pairs = [pair for pair in self.pairs if test.truth_in(dict(zip(names, pair[0]))) is True]
        return Lots(*pairs)

    def __add__(self, other):
        if not isinstance(other, Lots):
            raise BadLots("with")
        if self.pairs and other.pairs and self.width != other.width:
            raise BadLots("width")
        pairs = self.pairs + other.pairs
        return Lots(*pairs)

    def __iter__(self):
        return iter(self.pairs)

    def __len__(self):
        return len(self.pairs)

    def __eq__(self, other):
        return isinstance(other, Lots) and self.pairs == other.pairs

    def __str__(self):
        if not self.pairs:
            return "-"
        return " ; ".join([_pair_text(row, times) for row, times in self.pairs])

    @classmethod
    def read(cls, text):
        """The Lots with this text."""
        words = words_of(text)
        pairs, behind = lots_parts(words, 0)
        check_end(words, behind)
        return Lots(*pairs)


def _check_pairs(pairs):
    for at, pair in enumerate(pairs):
        if not _is_pair(pair) or len(pair[0]) != len(pairs[0][0]):
            raise BadLots(at)


def _is_pair(value):
    if not isinstance(value, tuple) or len(value) != 2:
        return False
    row, times = value
    return is_row(row) and is_integer(times) and times > 0


def _can_name(names, width):
    """Whether names are unlike ones for rows of this width, of any number without rows."""
    if not all([is_name(name) for name in names]) or len(set(names)) < len(names):
        return False
    return width == 0 or len(names) == width


def _pair_text(row, times):
    values = ["null" if value is None else str(value) for value in row]
    return " ".join([*values, "*", str(times)])

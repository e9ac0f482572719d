"""How many rows of a block can match."""

from headskip.covers import covers, set_index
from headskip.errors import BadLots, NoCount, NoName
from headskip.kinds import kinds, kinds_of_sets, rows_by_kind
from headskip.lots import Lots
from headskip.matches import matched_pairs
from headskip.values import is_exactly, is_integer


class Counts:
    """Numbers of matches: those of some ranges, which may touch or meet."""

    def __init__(self, ranges):
        self.pairs = _parted_ranges(ranges)

    @property
    def ranges(self):
        """The tuple of the pairs (low, high), ascending, no two of which touch."""
        return self.pairs

    @property
    def minimum(self):
        """The least number."""
        return self.pairs[0][0]

    @property
    def maximum(self):
        """The greatest number."""
        return self.pairs[-1][1]

    @property
    def is_fixed(self):
        """Whether there is just one number."""
        return self.pairs[0][0] == self.pairs[-1][1]

    def __contains__(self, x):
        return is_integer(x) and any([low <= x <= high for low, high in self.pairs])

    def __len__(self):
        return len(self.pairs)

    def __iter__(self):
        return iter(self.pairs)

    def __add__(self, other):
        if not isinstance(other, Counts):
            raise BadLots("other")
        return Counts([(low + least, high + most) for low, high in self.pairs for least, most in other.pairs])

    def __eq__(self, other):
        return isinstance(other, Counts) and self.pairs == other.pairs

    def __str__(self):
        return ", ".join([_range_text(low, high) for low, high in self.pairs])


def counts(head, test, limit=None):
    """The Counts of a block."""
    found = kinds(head, test, limit)
    return counts_of_kinds(head.rows, found, covers(found))


def shows_counts(head, test, ranges, limit=None):
    """Whether any value is the tuple of the ranges."""
    found = counts(head, test, limit)
    return is_exactly(ranges, found.ranges)


def lots_with(head, test, many, limit=None):
    """Lots that fit the head, of which just many rows match."""
    matching, others = rows_by_kind(head, test, limit)
    found = kinds_of_sets(head.wanted, list(matching), list(others))
    told = covers(found)
    if many not in counts_of_kinds(head.rows, found, told):
        raise NoCount(many)
    last = len(told.matching) - 1
    at = [k for k in range(last + 1) if _can_meet(told, k, many, head.rows - many)][0]
    pairs = _filled_up(_rows_of_set(matching, told.matching, at), list(matching.values()), many)
    pairs = pairs + _filled_up(_rows_of_set(others, told.others, last - at), list(others.values()), head.rows - many)
    return Lots(*pairs)


def matches_of(lots, names, test, limit=None):
    """How many rows of Lots match, their values being told in the order of names."""
    for name in test.columns:
        if name not in names:
            raise NoName(name)
    if limit is not None and limit.column not in names:
        raise NoName(limit.column)
    return sum([times for _, times in matched_pairs(lots, names, test, limit)])


def counts_of_kinds(rows, found, told):
    """The Counts of a block of so many rows, by its Kinds and its Covers."""
    if not found.matching:
        return Counts([(0, 0)])
    if not found.others:
        return Counts([(rows, rows)])
    pairs = []
    for few, rest in zip(told.matching, told.others[::-1]):
        # Backwards stand the numbers of the sets of all other wants.
        if few is not None and rest is not None and few <= rows - rest:
            pairs.append((few, rows - rest))
    return Counts(pairs)


def _can_meet(told, at, many, more):
    """Whether so many matching rows can meet the set with this index, and so many others all other wants."""
    few = told.matching[at]
    rest = told.others[len(told.others) - 1 - at]
    return few is not None and rest is not None and few <= many and rest <= more


def _rows_of_set(rows, numbers, at):
    """As few rows as possible that together meet the set with this index, by the least numbers of rows."""
    found = []
    while at > 0:
        met = [some for some in rows if numbers[at & ~set_index(some)] < numbers[at]][0]
        found.append(rows[met])
        at = at & ~set_index(met)
    return found


def _filled_up(rows, fillers, many):
    """The pairs of some rows, and of a filler as often as it takes to have so many rows."""
    pairs = [(row, 1) for row in rows]
    if many > len(rows):
        pairs.append((fillers[0], many - len(rows)))
    return pairs


def _parted_ranges(ranges):
    """The pairs of some ranges, ascending, those that touch or meet made one."""
    found = []
    for low, high in sorted(set(ranges)):
        if found and low <= found[-1][1] + 1:
            found[-1] = (found[-1][0], max(int(found[-1][1]), high))
        else:
            found.append((low, high))
    return tuple(found)


def _range_text(low, high):
    return str(low) if low == high else f"{low} to {high}"

"""What the head of a block tells of one column: spans, lists and the blank one."""

from headskip.errors import BadTold, BadValue, TooMany
from headskip.reach import Reach, reach_of
from headskip.told_words import MOST_VALUES, told_parts
from headskip.values import ascending, integers_of, is_integer, is_value
from headskip.words import check_end, words_of


class Told:
    """What a head tells of one column. Made are the spans, the lists and Blank below it."""

    def __init__(self, reach):
        self.reach = reach
        self.low = reach.low
        self.high = reach.high
        self.wants = reach.sure

    def __contains__(self, x):
        return is_value(x) and self.reach.has(x)

    def fits(self, values):
        """Whether any value is a list or tuple of let values, with each want among them."""
        if not isinstance(values, (list, tuple)) or len(values) == 0:
            return False
        if not all([value in self for value in values]):
            return False
        return all([want in values for want in self.wants])

    def normal(self, rows):
        """The normal form for so many rows."""
        _check_rows((self,), rows)
        return _told_of(self.reach.in_rows(rows))

    def is_in(self, other, rows):
        """Whether other lets each row of so many values that this lets."""
        _check_other(other)
        _check_rows((self, other), rows)
        return self.reach.in_rows(rows).lies_in(other.reach)

    def both(self, other, rows):
        """The normal Told that lets just what both let, None if that is nothing."""
        _check_other(other)
        _check_rows((self, other), rows)
        found = self.reach.both(other.reach)
        if found is None or len(found.sure) > rows:
            return None
        return _told_of(found.in_rows(rows))

    def merged(self, rows, other, more):
        """The least normal Told of rows values that this lets with more values that other lets."""
        _check_other(other)
        _check_rows((self,), rows)
        _check_rows((other,), more, "more")
        return _told_of(self.reach.in_rows(rows).joined(other.reach.in_rows(more)))

    def __add__(self, other):
        if not is_integer(other):
            raise BadValue(other)
        return self.shifted_by(other)

    def __neg__(self):
        return self.turned()

    def __eq__(self, other):
        # No two unlike Tolds have one text.
        return isinstance(other, Told) and str(self) == str(other)

    def __str__(self):
        return " ".join(self.words())

    @staticmethod
    def span_of(values):
        """The narrowest span of some values, Blank() if all are NULL."""
        nulls, numbers = _gathered(values)
        return _span(nulls, (numbers[0], numbers[-1], True, True)) if numbers else Blank()

    @staticmethod
    def list_of(values):
        """The list of some values, Blank() if all are NULL."""
        nulls, numbers = _gathered(values)
        return _listed(nulls, numbers) if numbers else Blank()

    @classmethod
    def read(cls, text):
        """The Told with this text."""
        words = words_of(text)
        parts, behind = told_parts(words, 0)
        check_end(words, behind)
        return told_of_parts(parts)


class Span(Told):
    """A low and a high end. Each is reached by some row, or a bound."""

    def __init__(self, low, high, low_reached, high_reached):
        _check_span(low, high, low_reached, high_reached)
        is_one_reached = low == high and (low_reached or high_reached)
        self.low_reached = low_reached or is_one_reached
        self.high_reached = high_reached or is_one_reached
        wants = [low] if self.low_reached else []
        if self.high_reached and high > low:
            wants = wants + [high]
        if self.NULLS == "holed":
            wants = wants + [None]
        Told.__init__(self, Reach(low, high, None, self.NULLS != "full", tuple(wants)))

    def shifted_by(self, by):
        """The same span with all integers greater by an integer."""
        return _span(self.NULLS, (self.low + by, self.high + by, self.low_reached, self.high_reached))

    def turned(self):
        """The same span with all integers negated."""
        return _span(self.NULLS, (-self.high, -self.low, self.high_reached, self.low_reached))

    def words(self):
        """The words of its text."""
        low = str(self.low) if self.low_reached else f"~{self.low}"
        high = str(self.high) if self.high_reached else f"~{self.high}"
        return [low, "to", high, *_nulls_words(self.NULLS)]


class Listed(Told):
    """One to nine integers, each of which some row has."""

    def __init__(self, *values):
        _check_listed(values)
        self.listed = ascending(values)
        wants = (*self.listed, None) if self.NULLS == "holed" else self.listed
        Told.__init__(self, Reach(self.listed[0], self.listed[-1], self.listed, self.NULLS != "full", wants))

    def shifted_by(self, by):
        """The same list with all integers greater by an integer."""
        return _listed(self.NULLS, [value + by for value in self.listed])

    def turned(self):
        """The same list with all integers negated."""
        return _listed(self.NULLS, [-value for value in self.listed])

    def words(self):
        """The words of its text."""
        return ["list", *[str(value) for value in self.listed], *_nulls_words(self.NULLS)]


class Full(Told):
    """No row has NULL."""

    NULLS = "full"


class Holed(Told):
    """Some row has NULL."""

    NULLS = "holed"


class Open(Told):
    """Perhaps some row has NULL."""

    NULLS = "open"


class FullSpan(Span, Full):
    """The integers from low to high."""

    def __init__(self, low, high, low_reached=True, high_reached=True):
        Span.__init__(self, low, high, low_reached, high_reached)


class HoledSpan(Span, Holed):
    """The integers from low to high, and NULL, which some row has."""

    def __init__(self, low, high, low_reached=True, high_reached=True):
        Span.__init__(self, low, high, low_reached, high_reached)


class OpenSpan(Span, Open):
    """The integers from low to high, and NULL."""

    def __init__(self, low, high, low_reached=True, high_reached=True):
        Span.__init__(self, low, high, low_reached, high_reached)


class FullList(Listed, Full):
    """Some integers, all of which are there."""

    def __init__(self, *values):
        Listed.__init__(self, *values)


class HoledList(Listed, Holed):
    """Some integers and NULL, all of which are there."""

    def __init__(self, *values):
        Listed.__init__(self, *values)


class OpenList(Listed, Open):
    """Some integers, all of which are there, and perhaps NULL."""

    def __init__(self, *values):
        Listed.__init__(self, *values)


class Blank(Told):
    """All rows have NULL."""

    NULLS = "blank"

    def __init__(self):
        Told.__init__(self, reach_of((None,)))

    def shifted_by(self, by):
        """A Blank: there are no integers."""
        return Blank()

    def turned(self):
        """A Blank: there are no integers."""
        return Blank()

    def words(self):
        """The words of its text."""
        return ["blank"]


def told_of_parts(parts):
    """The Told that was read as these parts."""
    if parts[0] == "blank":
        return Blank()
    if parts[0] == "list":
        return _listed(parts[1], parts[2])
    return _span(parts[1], parts[2:])


def _told_of(reach):
    """The normal form of what is possible and sure in some rows."""
    if reach.low is None:
        return Blank()
    nulls = _nulls_of(reach.sure, reach.null)
    numbers = integers_of(reach.sure)
    if len(numbers) <= MOST_VALUES and reach.is_among(numbers):
        return _listed(nulls, numbers)
    return _span(nulls, (reach.low, reach.high, reach.low in numbers, reach.high in numbers))


def _nulls_of(sure, null):
    if None in sure:
        return "holed"
    return "open" if null else "full"


def _span(nulls, ends):
    if nulls == "full":
        return FullSpan(*ends)
    if nulls == "holed":
        return HoledSpan(*ends)
    return OpenSpan(*ends)


def _listed(nulls, values):
    if nulls == "full":
        return FullList(*values)
    if nulls == "holed":
        return HoledList(*values)
    return OpenList(*values)


def _nulls_words(nulls):
    return [] if nulls == "full" else [nulls]


def _check_span(low, high, low_reached, high_reached):
    if not is_integer(low):
        raise BadTold("low")
    if not is_integer(high):
        raise BadTold("high")
    if low > high:
        raise BadTold("order")
    if not isinstance(low_reached, bool):
        raise BadTold("low_reached")
    if not isinstance(high_reached, bool):
        raise BadTold("high_reached")


def _check_listed(values):
    for at, value in enumerate(values):
        if not is_integer(value):
            raise BadTold(at)
    if len(values) == 0 or len(set(values)) < len(values):
        raise BadTold("values")
    if len(values) > MOST_VALUES:
        raise TooMany("values", MOST_VALUES)


def _check_rows(tolds, rows, part="rows"):
    most = max([len(told.wants) for told in tolds])
    if not is_integer(rows) or rows < max(1, most):
        raise BadTold(part)


def _check_other(other):
    if not isinstance(other, Told):
        raise BadTold("other")


def _gathered(values):
    """Whether NULL is among some values, as a word for it, and their integers, ascending."""
    if not isinstance(values, (list, tuple)) or len(values) == 0:
        raise BadTold("values")
    for value in values:
        if not is_value(value):
            raise BadValue(value)
    found = ascending(values)
    return _nulls_of(found, False), integers_of(found)

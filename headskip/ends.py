"""How far the values of a column go among the matches of a block: what is possible, what is sure, what is open."""

from headskip.counts import Counts, counts_of_kinds
from headskip.covers import covers
from headskip.errors import BadQuestion
from headskip.extents import extents
from headskip.values import is_integer


def possible(head, test, column):
    """The greatest value that a match can have in some contents, None if there is none."""
    return _greatest_possible(extents(head, test, column))


def sure(head, test, column):
    """The greatest value that some match has, or more, in each contents, None if there is none."""
    return _greatest_sure(extents(head, test, column))


def lowest(head, test, column):
    """The least value that a match can have in some contents, None if there is none."""
    return _negated(_greatest_possible(extents(head, test, column).turned()))


def surely_below(head, test, column):
    """The least value that some match has, or less, in each contents, None if there is none."""
    return _negated(_greatest_sure(extents(head, test, column).turned()))


def open_value(head, test, column, many):
    """The greatest value for which the number of matches with at least so much, cut at many, is not the same in all."""
    found = extents(head, test, column)
    if not is_integer(many) or many < 1:
        raise BadQuestion("many")
    for value, numbers in levels_of(found):
        if numbers.minimum < many and not numbers.is_fixed:
            return value
    return None


def levels(head, test, column):
    """The pairs of a value and the Counts of the matches with at least so much, where these change, descending."""
    return tuple(levels_of(extents(head, test, column)))


def levels_of(found):
    """The levels of some Extents, as a list."""
    steps = []
    last = Counts([(0, 0)])
    for value in found.turns():
        told = found.kinds_from(value)
        numbers = counts_of_kinds(found.head.rows, told, covers(told))
        if numbers != last:
            steps.append((value, numbers))
            last = numbers
    return steps


def _greatest_possible(found):
    steps = levels_of(found)
    return steps[0][0] if steps else None


def _greatest_sure(found):
    for value, numbers in levels_of(found):
        if numbers.minimum > 0:
            return value
    return None


def _negated(value):
    return None if value is None else -value

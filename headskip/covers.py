"""How few rows meet some wants together: the least numbers of matching rows and of others.

A set of wants has the index that is the sum of 2 ** k for the indexes k of its wants.
"""

from headskip.values import is_integer


class Covers:
    """The least numbers of matching rows, and of others, for each set of wants: a paper."""

    def __init__(self, matching, others):
        self.matching = matching
        self.others = others

    def __eq__(self, other):
        return isinstance(other, Covers) and self.matching == other.matching and self.others == other.others


def covers(found):
    """The Covers of a Kinds."""
    wants = len(found.wants)
    return Covers(_least_numbers(found.matching, wants), _least_numbers(found.others, wants))


def shows_covers(found, paper):
    """Whether any value is a Covers for which the rules of least numbers hold."""
    if not isinstance(paper, Covers):
        return False
    wants = len(found.wants)
    return _are_least(found.matching, wants, paper.matching) and _are_least(found.others, wants, paper.others)


def set_index(some):
    """The index of a set of wants."""
    return sum([1 << k for k in some])


def _least_numbers(sets, wants):
    masks = [set_index(some) for some in sets]
    numbers = [0]
    for at in range(1, 1 << wants):
        # Some row must meet the first want of the set, so the other told sets can be left out.
        first = at & -at
        numbers.append(_one_more([numbers[at & ~mask] for mask in masks if mask & first]))
    return tuple(numbers)


def _are_least(sets, wants, numbers):
    if not isinstance(numbers, tuple) or len(numbers) != 1 << wants:
        return False
    if not all([number is None or (is_integer(number) and number >= 0) for number in numbers]):
        return False
    masks = [set_index(some) for some in sets]
    for at in range(1, len(numbers)):
        # A told set that shares no want with the set leaves it as it is, and its rules hold by themselves.
        if numbers[at] != _one_more([numbers[at & ~mask] for mask in masks if mask & at]):
            return False
    return numbers[0] == 0


def _one_more(numbers):
    """One more than the least of some numbers, None if there is none but None."""
    known = [int(number) for number in numbers if number is not None]
    return min([int(number) for number in known]) + 1 if known else None

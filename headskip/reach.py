"""Which values the rows of a block can have in a column, and which of them it surely has."""

from headskip.values import ascending, integers_of


class Reach:
    """Integers from low to high, perhaps NULL, and the values among them that are sure.

    members are the integers if these are told one by one, None if they are all from low to high.
    Without integers low and high are None.
    """

    def __init__(self, low, high, members, null, sure):
        self.low = low
        self.high = high
        self.members = members
        self.null = null
        self.sure = sure

    def has(self, value):
        """Whether an integer or None can be there."""
        if value is None:
            return self.null
        if self.members is not None:
            return value in self.members
        return self.low <= value <= self.high

    def is_among(self, numbers):
        """Whether each integer that can be there is one of some unlike numbers."""
        if self.members is not None:
            return all([number in numbers for number in self.members])
        inside = [number for number in numbers if self.low <= number <= self.high]
        return len(inside) == self.high - self.low + 1

    def in_rows(self, rows):
        """What is possible and sure in so many rows."""
        if len(self.sure) == rows:
            return reach_of(self.sure)
        if self.low == self.high and not self.null:
            return reach_of((self.low,))
        return self

    def lies_in(self, other):
        """Whether other lets all contents that have just what is possible and sure here."""
        if self.null and not other.null:
            return False
        if not all([value in self.sure for value in other.sure]):
            return False
        if self.low is None:
            return True
        if other.members is not None:
            return self.is_among(other.members)
        return other.low <= self.low and self.high <= other.high

    def both(self, other):
        """What both let, with all that one of them wants; None if that is nothing."""
        sure = ascending(self.sure + other.sure)
        if not all([self.has(value) and other.has(value) for value in sure]):
            return None
        null = self.null and other.null
        if self.members is not None or other.members is not None:
            # Listed integers are all sure, so there are no others that both let.
            return _listed_reach(integers_of(sure), null, sure)
        low, high = max(int(self.low), other.low), min(int(self.high), other.high)
        if low > high:
            return _listed_reach((), null, sure)
        return Reach(low, high, None, null, sure)

    def joined(self, other):
        """The least reach, a list or gapless, of contents of the one behind contents of the other."""
        sure = ascending(self.sure + other.sure)
        null = self.null or other.null
        numbers = integers_of(sure)
        if self.is_among(numbers) and other.is_among(numbers):
            return _listed_reach(numbers, null, sure)
        parts = [part for part in (self, other) if part.low is not None]
        low = min([int(part.low) for part in parts])
        high = max([int(part.high) for part in parts])
        return Reach(low, high, None, null, sure)


def reach_of(values):
    """The reach of just these values, ascending, all of them being sure."""
    return _listed_reach(integers_of(values), None in values, values)


def _listed_reach(numbers, null, sure):
    if numbers:
        return Reach(numbers[0], numbers[-1], numbers, null, sure)
    # Without integers all rows have NULL.
    return Reach(None, None, (), True, (None,)) if null else None

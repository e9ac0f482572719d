"""How many matches of a block have at least some integer: the least and the greatest number, integer by integer."""


class Ladder:
    """Steps: triples of an integer and the least and the greatest number of matches with at least so much, descending.

    Between two steps the numbers are those of the greater integer; above the first step there are none.
    """

    def __init__(self, steps):
        self.steps = steps

    def range_from(self, value):
        """The least and the greatest number of matches with at least this integer."""
        below = [(few, many) for step, few, many in self.steps if step >= value]
        return below[-1] if below else (0, 0)

    def possible_value(self):
        """The greatest integer that some match can have, None if there is none."""
        return _first_step([step for step, _, many in self.steps if many > 0])

    def sure_value(self):
        """The greatest integer that some match surely reaches, None if there is none."""
        return _first_step([step for step, few, _ in self.steps if few > 0])

    def is_open_above(self, last):
        """Whether the number is not fixed at some integer above the last one (None: at some integer)."""
        return any([few < many and (last is None or step > last) for step, few, many in self.steps])

    def sure_above(self, last):
        """The pairs of an integer above the last one (None: of any) and how many matches surely have it, descending."""
        found = []
        above = 0
        for step, few, _ in self.steps:
            if few > above and (last is None or step > last):
                found.append((step, few - above))
            above = few
        return found


def _first_step(steps):
    return steps[0] if steps else None


def ladder_of_levels(levels):
    """The Ladder of the levels of a block that was not read."""
    return Ladder([(value, numbers.minimum, numbers.maximum) for value, numbers in levels])


def ladder_of_values(pairs):
    """The Ladder of a block that was read, by the pairs of an integer and a number of matches that have it."""
    steps = []
    total = 0
    for value in sorted(set([value for value, _ in pairs]))[::-1]:
        total += sum([times for other, times in pairs if other == value])
        steps.append((value, total, total))
    return Ladder(steps)

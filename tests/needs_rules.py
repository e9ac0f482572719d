"""What settles a table, which blocks are loose, due, lacking and gained: as the words of the document tell it.

All contents and all tables of small shelves are gone through one by one.
"""

import itertools

from headskip.questions import AtLeast, Greatest, Least, Many, Some, Top, Total
from headskip.shelves import Table
from brute import all_contents, answer_on, lots_of, matched

FAR = range(-3, 8)


def table_of(blocks):
    """The Table of some tuples of rows."""
    return Table(*[lots_of(rows) for rows in blocks])


class Known:
    """All tables of a small shelf, each a tuple of tuples of rows, with the answers of a question."""

    def __init__(self, shelf, question):
        self.names = shelf.names
        self.question = question
        self.contents = [all_contents(head) for head in shelf]
        self.answers = {}
        for blocks in itertools.product(*self.contents):
            self.answers[blocks] = answer_on(question, shelf.names, [row for rows in blocks for row in rows])

    def settling(self):
        """For each set of places a dict from what is read there to whether it settles."""
        found = {}
        for many in range(len(self.contents) + 1):
            for places in itertools.combinations(range(len(self.contents)), many):
                answers = {}
                for blocks, answer in self.answers.items():
                    answers.setdefault(tuple(blocks[at] for at in places), set()).add((type(answer), answer))
                found[places] = {key: len(told) == 1 for key, told in answers.items()}
        return found

    def number(self, rows, value):
        """The number of matches with at least a value (for Least: at most), or the sum for a Total."""
        question = self.question
        if isinstance(question, Total):
            return answer_on(question, self.names, rows)
        if question.asked is None:
            return answer_on(Many(question.test), self.names, rows)
        values = matched(self.names, question.test, rows, question.asked)
        if isinstance(question, Least):
            return sum(other <= value for other in values)
        return sum(other >= value for other in values)

    def numbers(self, at, value=0):
        """The ascending numbers of a block over all its contents."""
        return sorted({self.number(rows, value) for rows in self.contents[at]})

    def loose(self, at):
        """The integer from which on reading a block can matter, 0 without a column; None if it is not loose."""
        question = self.question
        if isinstance(question, (Some, Many, AtLeast, Total)):
            return 0 if len(self.numbers(at)) > 1 else None
        cut = question.quota
        values = [v for v in FAR if len({min(cut, number) for number in self.numbers(at, v)}) > 1]
        if not values:
            return None
        return min(values) if isinstance(question, Least) else max(values)

    def spread(self, at):
        """The difference of the greatest and the least number of matches of the filter (for Total: of the sums)."""
        if isinstance(self.question, Total):
            numbers = self.numbers(at)
        else:
            many = Many(self.question.test)
            numbers = [answer_on(many, self.names, rows) for rows in self.contents[at]]
        return max(numbers) - min(numbers)

    def due_lack_gains(self, blocks):
        """What is due, lacking and gained on a table."""
        question = self.question
        answer = self.answers[blocks]
        places = range(len(blocks))
        if isinstance(question, (Many, Total)):
            return tuple(at for at in places if len(self.numbers(at)) > 1), 0, ()
        if isinstance(question, (Some, AtLeast)):
            many = 1 if isinstance(question, Some) else question.quota
            had = [self.number(blocks[at], 0) for at in places]
            if answer:
                lack = many - sum(self.numbers(at)[0] for at in places)
                gains = [(had[at] - self.numbers(at)[0], at) for at in places]
            else:
                lack = sum(self.numbers(at)[-1] for at in places) - many + 1
                gains = [(self.numbers(at)[-1] - had[at], at) for at in places]
            return (), *ranked(lack, gains)
        last = self.last_value(answer)
        if last is None:
            return tuple(at for at in places if any(len(self.numbers(at, v)) > 1 for v in FAR)), 0, ()
        above = [v for v in FAR if (v < last if isinstance(question, Least) else v > last)]
        due = tuple(at for at in places if any(len(self.numbers(at, v)) > 1 for v in above))
        had = [self.number(blocks[at], last) for at in places]
        few = [self.numbers(at, last)[0] for at in places]
        lack = question.quota - sum(had[at] if at in due else few[at] for at in places)
        return due, *ranked(lack, [(had[at] - few[at], at) for at in places if at not in due])

    def last_value(self, answer):
        if isinstance(self.question, Top):
            return answer[-1] if len(answer) == self.question.quota else None
        assert isinstance(self.question, (Greatest, Least))
        return answer


def ranked(lack, gains):
    if lack <= 0:
        return 0, ()
    return lack, tuple(sorted([pair for pair in gains if pair[0] > 0], key=lambda pair: (-pair[0], pair[1])))

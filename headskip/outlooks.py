"""What the blocks of a shelf tell about a question, read or not: Ladders, and whether these settle it.

Integers have their sign [notes.py]. For a question without a column, and for a sum, a Ladder has one step, of 0: the
least and the greatest number of matches, or the least and the greatest sum.
"""

from headskip.counts import counts, matches_of
from headskip.ends import levels_of
from headskip.extents import extents
from headskip.ladders import Ladder, ladder_of_levels, ladder_of_values
from headskip.matches import matched_values
from headskip.notes import shown_by, sign_of
from headskip.questions import Total
from headskip.sums import sum_of, sums


def unread_ladder(question, head):
    """The Ladder of a block that was not read."""
    if isinstance(question, Total):
        found = sums(head, question.test, question.asked)
        return Ladder([(0, found.least, found.greatest)])
    if question.asked is None:
        numbers = counts(head, question.test)
        return Ladder([(0, numbers.minimum, numbers.maximum)])
    known = extents(head, question.test, question.asked)
    return ladder_of_levels(levels_of(known if sign_of(question) > 0 else known.turned()))


def read_ladder(question, names, lots):
    """The Ladder of a block that was read, its values being told in the order of names."""
    if isinstance(question, Total):
        total = sum_of(lots, names, question.test, question.asked)
        return Ladder([(0, total, total)])
    if question.asked is None:
        many = matches_of(lots, names, question.test)
        return Ladder([(0, many, many)])
    pairs = matched_values(lots, names, question.test, question.asked)
    return ladder_of_values([(sign_of(question) * value, times) for value, times in pairs])


def unread_ladders(question, shelf):
    """The Ladders of all blocks of a shelf, none of which was read."""
    return [unread_ladder(question, head) for head in shelf]


def read_ladders(question, shelf, table):
    """The Ladders of all blocks of a table, each of which was read."""
    return [read_ladder(question, shelf.names, lots) for lots in table]


def are_settling(question, ladders):
    """Whether the Ladders of all blocks settle the question."""
    for value in sorted(set([step[0] for ladder in ladders for step in ladder.steps]))[::-1]:
        ranges = [ladder.range_from(value) for ladder in ladders]
        few = sum([least for least, _ in ranges])
        many = sum([most for _, most in ranges])
        if shown_by(question, few) != shown_by(question, many):
            return False
    return True


def open_step(question, ladder):
    """The greatest integer from which on reading the block can matter; None if it cannot."""
    for value, few, many in ladder.steps:
        if few < many and (question.asked is None or question.quota is None or few < question.quota):
            return value
    return None

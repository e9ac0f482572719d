"""What readers lose that do not know the table: how many blocks they read that a least settling set does without."""

from headskip.counts import counts, lots_with
from headskip.errors import BadQuestion
from headskip.needs import fewest
from headskip.notes import limit_from
from headskip.outlooks import open_step, unread_ladders
from headskip.questions import Greatest, Least, Some, check_columns_asked
from headskip.readers import OpenFirst, course
from headskip.shelves import Table
from headskip.values import is_exactly


class Loss:
    """The greatest loss, and a table with it: a paper."""

    def __init__(self, number, worst):
        self.number = number
        self.worst = worst

    def __eq__(self, other):
        return isinstance(other, Loss) and self.number == other.number and self.worst == other.worst


def loss(reader, shelf, question, table):
    """How many blocks more the reader reads on a table than the least settling set has."""
    reads = list(course(reader, shelf, question, table))
    return len(reads) - len(fewest(shelf, question, table).reads)


def greatest_loss(shelf, question):
    """The Loss of OpenFirst over all tables."""
    if not isinstance(question, (Some, Greatest, Least)):
        raise BadQuestion("question")
    check_columns_asked(question, shelf.names)
    rivals, value = _rivals(question, unread_ladders(question, shelf))
    if not rivals:
        return Loss(0, shelf.sample())
    return Loss(len(rivals) - 1, _worst_table(shelf, question, rivals[-1], value))


def shows_loss(shelf, question, paper):
    """Whether any value is a Loss with the greatest number and a table that has it."""
    found = greatest_loss(shelf, question)
    if not isinstance(paper, Loss) or not is_exactly(paper.number, found.number) or not shelf.fits(paper.worst):
        return False
    return loss(OpenFirst(), shelf, question, paper.worst) == paper.number


def _rivals(question, ladders):
    """The most loose blocks with one possible value, above all sure ones, and this value; none if there are none."""
    sure = [ladder.sure_value() for ladder in ladders]
    loose = [at for at, ladder in enumerate(ladders) if open_step(question, ladder) is not None]
    found = ([], None)
    for value in sorted(set([ladders[at].possible_value() for at in loose])):
        rivals = [at for at in loose if ladders[at].possible_value() == value]
        if all([low is None or low < value for low in sure]) and len(rivals) > len(found[0]):
            found = (rivals, value)
    return found


def _worst_table(shelf, question, last, value):
    """A table on which this block alone has a match with the value, and none has one beyond it."""
    limit = None if question.asked is None else limit_from(question, value)
    blocks = []
    for at, head in enumerate(shelf):
        many = counts(head, question.test, limit).maximum if at == last else 0
        blocks.append(lots_with(head, question.test, many, limit))
    return Table(*blocks)

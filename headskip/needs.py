"""What must be read of a table: the blocks that each settling set has, and how few blocks settle."""

from headskip.errors import NoBlock
from headskip.notes import values_of_answer
from headskip.outlooks import are_settling, read_ladders, unread_ladder, unread_ladders
from headskip.questions import check_table
from headskip.settled import settle
from headskip.values import is_exactly, is_index


class Fewest:
    """A least settling set, and what shows that no lesser one settles: a paper."""

    def __init__(self, reads, due, lack, gains):
        self.reads = reads
        self.due = due
        self.lack = lack
        self.gains = gains

    def __eq__(self, other):
        if not isinstance(other, Fewest) or self.reads != other.reads or self.due != other.due:
            return False
        return self.lack == other.lack and self.gains == other.gains


def musts(shelf, question, table):
    """The ascending tuple of the blocks that are in each settling set."""
    check_table(question, shelf, table)
    ladders = read_ladders(question, shelf, table)
    found = []
    for at, head in enumerate(shelf):
        others = [*ladders[:at], unread_ladder(question, head), *ladders[at + 1:]]
        if not are_settling(question, others):
            found.append(at)
    return tuple(found)


def must(shelf, question, table, at):
    """None if the block is no must, otherwise the Unsettled behind reading all others."""
    check_table(question, shelf, table)
    if not is_index(at, len(shelf)):
        raise NoBlock(at)
    found = settle(shelf, question, {k: table[k] for k in range(len(shelf)) if k != at})
    return None if found else found


def fewest(shelf, question, table):
    """The Fewest of a table."""
    due, lack, gains = _due_and_lack(shelf, question, table)
    further = [at for _, at in gains[:_fewest_further(lack, gains)]]
    return Fewest(tuple(sorted(set([*due, *further]))), due, lack, gains)


def shows_fewest(shelf, question, table, paper):
    """Whether any value is a Fewest with what is due, lacking and gained, and with a least settling set."""
    due, lack, gains = _due_and_lack(shelf, question, table)
    if not isinstance(paper, Fewest) or not is_exactly((paper.due, paper.lack, paper.gains), (due, lack, gains)):
        return False
    if not _are_ascending_indexes(paper.reads, len(shelf)) or not all([at in paper.reads for at in due]):
        return False
    if len(paper.reads) != len(due) + _fewest_further(lack, gains):
        return False
    return sum([gain for gain, at in gains if at in paper.reads]) >= lack


def _are_ascending_indexes(value, many):
    """Whether any value is an ascending tuple of indexes."""
    if not isinstance(value, tuple) or not all([is_index(at, many) for at in value]):
        return False
    return list(value) == sorted(set(value))


def _fewest_further(lack, gains):
    """How many of some gains, greater ones ahead, add up to what is lacking."""
    total = 0
    many = 0
    for gain, _ in gains:
        if total < lack:
            total += gain
            many += 1
    return many


def _due_and_lack(shelf, question, table):
    """The blocks that are due, what is lacking without the others, and the gains of these."""
    answer = question(shelf, table)
    unread = unread_ladders(question, shelf)
    read = read_ladders(question, shelf, table)
    if answer is False:
        lack, gains = _lack_of_no(question, unread, read)
        return (), lack, gains
    last = _last_step(question, answer)
    due = tuple([at for at, ladder in enumerate(unread) if ladder.is_open_above(last)])
    if last is None:
        return due, 0, ()
    many = [ladder.range_from(last)[0] for ladder in read]
    few = [many[at] if at in due else ladder.range_from(last)[0] for at, ladder in enumerate(unread)]
    lack, gains = _lack_and_gains(question.quota - sum(few), [more - less for more, less in zip(many, few)])
    return due, lack, gains


def _last_step(question, answer):
    """The integer of the last value that was asked for, 0 for a yes; None if nothing can be lacking."""
    if question.quota is None:
        return None
    if question.asked is None:
        return 0
    values = values_of_answer(question, answer)
    return values[-1] if len(values) == question.quota else None


def _lack_of_no(question, unread, read):
    """What is lacking, and what is gained, if there are not as many matches as were asked for."""
    most = [ladder.range_from(0)[1] for ladder in unread]
    had = [ladder.range_from(0)[0] for ladder in read]
    return _lack_and_gains(sum(most) - question.quota + 1, [many - less for many, less in zip(most, had)])


def _lack_and_gains(lack, gains):
    """What is lacking, and the pairs of a gain above 0 and its block, in their order: none if nothing is lacking."""
    if lack <= 0:
        return 0, ()
    # Negated gains stand the greater ones ahead, and then the lesser indexes.
    pairs = sorted(set([(-gain, at) for at, gain in enumerate(gains) if gain > 0]))
    return lack, tuple([(-gain, at) for gain, at in pairs])

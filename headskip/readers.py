"""Readers: they see heads and what they have read, and tell which block they read next."""

from headskip.counts import counts
from headskip.errors import BadQuestion
from headskip.outlooks import are_settling, open_step, read_ladder, unread_ladder
from headskip.questions import Total, check_table
from headskip.reader_words import reader_word
from headskip.settled import check_settling
from headskip.words import check_end, words_of


class Reader:
    """The base of all readers. Made are the three below it."""

    def __eq__(self, other):
        return isinstance(other, Reader) and self.WORD == other.WORD

    def __str__(self):
        return str(self.WORD)

    @classmethod
    def read(cls, text):
        """The reader with this text."""
        words = words_of(text)
        word, behind = reader_word(words, 0)
        check_end(words, behind)
        return reader_of_word(word)


class InOrder(Reader):
    """Reads the first loose block."""

    WORD = "in order"

    def __call__(self, shelf, question, reads):
        loose = loose_ladders(shelf, question, reads)
        return _first_greatest([(at, 0) for at in loose])


class OpenFirst(Reader):
    """Reads the loose block that is open farthest out, for a question about values; otherwise the first loose one."""

    WORD = "open first"

    def __call__(self, shelf, question, reads):
        # For all other questions each loose block is open from 0 on.
        loose = loose_ladders(shelf, question, reads)
        return _first_greatest([(at, open_step(question, ladder)) for at, ladder in loose.items()])


class MostFirst(Reader):
    """Reads the loose block whose number of matches, or whose sum, is the least known."""

    WORD = "most first"

    def __call__(self, shelf, question, reads):
        loose = loose_ladders(shelf, question, reads)
        return _first_greatest([(at, _spread(shelf[at], question, ladder)) for at, ladder in loose.items()])


def course(reader, shelf, question, table):
    """The indexes of the blocks that a reader reads on a table, in order, until the question is settled."""
    if not isinstance(reader, Reader):
        raise BadQuestion("reader")
    check_table(question, shelf, table)
    reads = {}
    at = reader(shelf, question, reads)
    while at is not None:
        yield at
        reads[at] = table[at]
        at = reader(shelf, question, reads)


def loose_ladders(shelf, question, reads):
    """A dict from the loose blocks, ascending, to their Ladders; an empty one if the question is settled."""
    check_settling(shelf, question, reads)
    ladders = []
    loose = {}
    for at, head in enumerate(shelf):
        if at in reads:
            ladders.append(read_ladder(question, shelf.names, reads[at]))
            continue
        ladder = unread_ladder(question, head)
        ladders.append(ladder)
        if open_step(question, ladder) is not None:
            loose[at] = ladder
    return {} if are_settling(question, ladders) else loose


def reader_of_word(word):
    """The reader with this text."""
    if word == InOrder.WORD:
        return InOrder()
    if word == OpenFirst.WORD:
        return OpenFirst()
    return MostFirst()


def _first_greatest(pairs):
    """The first block of those with the greatest number; None if there is none."""
    if not pairs:
        return None
    most = max([int(number) for _, number in pairs])
    return [at for at, number in pairs if number == most][0]


def _spread(head, question, ladder):
    """How far the greatest number of matches, or the greatest sum, lies above the least one."""
    if question.asked is None or isinstance(question, Total):
        few, many = ladder.range_from(0)
        return many - few
    numbers = counts(head, question.test)
    return numbers.maximum - numbers.minimum

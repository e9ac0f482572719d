"""Whether a question is settled behind some reads, and papers that show it."""

from headskip.counts import counts_of_kinds, lots_with, matches_of
from headskip.covers import covers
from headskip.ends import levels_of
from headskip.errors import BadQuestion, BadShelf
from headskip.extents import extents
from headskip.kinds import kinds
from headskip.ladders import ladder_of_levels, ladder_of_values
from headskip.matches import matched_values
from headskip.notes import answer_of_values, filled_values, limit_from, shown_by, sign_of
from headskip.questions import Question, Total, check_columns_asked
from headskip.shelves import Shelf, Table, check_reads
from headskip.sums import sum_of, sums
from headskip.values import ascending


class Settled:
    """The one answer, and what shows it of each block that was not read: a paper."""

    def __init__(self, answer, parts):
        self.answer = answer
        self.parts = parts

    def __eq__(self, other):
        return isinstance(other, Settled) and self.answer == other.answer and self.parts == other.parts


class Unsettled:
    """Two tables that part in one block and have unlike answers: a paper that is false."""

    def __init__(self, at, one, other):
        self.at = at
        self.one = one
        self.other = other

    def __bool__(self):
        return False

    def __eq__(self, other):
        if not isinstance(other, Unsettled) or self.at != other.at:
            return False
        return self.one == other.one and self.other == other.other


def settle(shelf, question, reads):
    """A right Settled if the question is settled behind the reads, otherwise a right Unsettled."""
    check_settling(shelf, question, reads)
    if isinstance(question, Total):
        return _settle_total(shelf, question, reads)
    if question.asked is None:
        return _settle_number(shelf, question, reads)
    return _settle_values(shelf, question, reads)


def check_settling(shelf, question, reads):
    """Raises what settle raises."""
    if not isinstance(shelf, Shelf):
        raise BadShelf("shelf")
    if not isinstance(question, Question):
        raise BadQuestion("question")
    check_columns_asked(question, shelf.names)
    check_reads(shelf, reads)


def _settle_total(shelf, question, reads):
    answer = 0
    parts = []
    for at, head in enumerate(shelf):
        if at in reads:
            answer += sum_of(reads[at], shelf.names, question.test, question.asked)
            continue
        found = sums(head, question.test, question.asked)
        if not found.is_fixed:
            blocks = [reads[k] if k in reads else other.sample() for k, other in enumerate(shelf)]
            table = Table(*blocks)
            return Unsettled(at, table.with_block(at, found.few), table.with_block(at, found.much))
        answer += found.least
        parts.append((at, found))
    return Settled(answer, tuple(parts))


def _settle_number(shelf, question, reads):
    ranges = []
    parts = []
    for at, head in enumerate(shelf):
        if at in reads:
            many = matches_of(reads[at], shelf.names, question.test)
            ranges.append((many, many))
        else:
            found = kinds(head, question.test)
            told = covers(found)
            numbers = counts_of_kinds(head.rows, found, told)
            ranges.append((numbers.minimum, numbers.maximum))
            parts.append((at, ((None, found, told),)))
    if _turning_block(question, ranges) is not None:
        return _parted_tables(shelf, question, reads, None, ranges)
    return Settled(shown_by(question, _total_few(ranges)), tuple(parts))


def _settle_values(shelf, question, reads):
    found = _found_extents(shelf, question, reads)
    ladders = [_ladder(shelf, question, reads, found, at) for at in range(len(shelf))]
    last = None
    for value in sorted(set([step[0] for ladder in ladders for step in ladder.steps]))[::-1]:
        ranges = [ladder.range_from(value) for ladder in ladders]
        if _turning_block(question, ranges) is not None:
            return _parted_tables(shelf, question, reads, limit_from(question, value), ranges)
        if _total_few(ranges) >= question.quota:
            last = value
            break
    sure = [ladder.sure_above(last) for ladder in ladders]
    pairs = [pair for some in sure for pair in some]
    answer = answer_of_values(question, filled_values(pairs, last, question.quota))
    parts = [(at, _notes(question, found[at], sure[at], last)) for at in found]
    return Settled(answer, tuple(parts))


def _found_extents(shelf, question, reads):
    """A dict from the blocks that were not read to their Extents, integers having their sign."""
    found = {}
    for at, head in enumerate(shelf):
        if at not in reads:
            known = extents(head, question.test, question.asked)
            found[at] = known if sign_of(question) > 0 else known.turned()
    return found


def _ladder(shelf, question, reads, found, at):
    """The Ladder of a block, integers having their sign."""
    if at in found:
        return ladder_of_levels(levels_of(found[at]))
    pairs = matched_values(reads[at], shelf.names, question.test, question.asked)
    return ladder_of_values([(sign_of(question) * value, times) for value, times in pairs])


def _notes(question, found, sure, last):
    """The notes of a block that surely has some integers above the last one of the answer (None: there is none)."""
    values = [None] if last is None else [last, last + 1]
    values = values + [value + step for value, _ in sure for step in (0, 1)]
    sign = sign_of(question)
    notes = []
    for told in ascending([None if value is None else sign * value for value in values]):
        known = found.kinds_from(None if told is None else sign * told)
        notes.append((told, known, covers(known)))
    return tuple(notes)


def _total_few(ranges):
    return sum([few for few, _ in ranges])


def _turning_block(question, ranges):
    """The first block that changes what the answer shows if block after block goes from few matches to many.

    None if the answer shows the same of few and of many matches.
    """
    total = _total_few(ranges)
    for at, (few, many) in enumerate(ranges):
        more = total + many - few
        if shown_by(question, more) != shown_by(question, total):
            return at
        total = more
    return None


def _parted_tables(shelf, question, reads, limit, ranges):
    """The Unsettled with many matches ahead of the turning block, and with few behind it."""
    turning = _turning_block(question, ranges)
    blocks = []
    for at, head in enumerate(shelf):
        few, many = ranges[at]
        if at in reads:
            blocks.append(reads[at])
        else:
            blocks.append(lots_with(head, question.test, many if at < turning else few, limit))
    table = Table(*blocks)
    changed = lots_with(shelf[turning], question.test, ranges[turning][1], limit)
    return Unsettled(turning, table, table.with_block(turning, changed))

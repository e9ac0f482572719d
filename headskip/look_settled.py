"""Looking at papers that show that a question is settled, or that it is open."""

from headskip.counts import counts_of_kinds, matches_of
from headskip.covers import shows_covers
from headskip.extents import extents
from headskip.kinds import is_kinds, kinds
from headskip.matches import matched_values
from headskip.notes import answer_of_values, filled_values, shown_by, sign_of, values_of_answer
from headskip.questions import Many, Total
from headskip.settled import Settled, Unsettled, check_settling
from headskip.sums import shows_sums, sum_of
from headskip.values import ascending, is_exactly, is_index, is_value


def shows_unsettled(shelf, question, reads, paper):
    """Whether any value is a right Unsettled."""
    check_settling(shelf, question, reads)
    if not isinstance(paper, Unsettled) or not is_index(paper.at, len(shelf)):
        return False
    if not shelf.agrees(paper.one, reads) or not shelf.agrees(paper.other, reads):
        return False
    if not all([paper.one[at] == paper.other[at] for at in range(len(shelf)) if at != paper.at]):
        return False
    return question(shelf, paper.one) != question(shelf, paper.other)


def shows_settled(shelf, question, reads, paper):
    """Whether any value is a right Settled."""
    check_settling(shelf, question, reads)
    if not isinstance(paper, Settled) or not _are_parts(shelf, reads, paper.parts):
        return False
    if isinstance(question, Total):
        return _shows_total(shelf, question, reads, paper)
    told = [_told_numbers(shelf[at], question, notes) for at, notes in paper.parts]
    if any([numbers is None for numbers in told]):
        return False
    if question.asked is None:
        return _shows_number(shelf, question, reads, paper.answer, told)
    return _shows_values(shelf, question, reads, paper.answer, told)


def _are_parts(shelf, reads, parts):
    """Whether any value has a pair for just each block that was not read, ascending."""
    if not _are_tuples(parts, 2):
        return False
    unread = [at for at in range(len(shelf)) if at not in reads]
    return is_exactly(tuple([at for at, _ in parts]), tuple(unread))


def _are_tuples(value, length):
    """Whether any value is a tuple of tuples of this length."""
    if not isinstance(value, tuple):
        return False
    return all([isinstance(part, tuple) and len(part) == length for part in value])


def _shows_total(shelf, question, reads, paper):
    for at, notes in paper.parts:
        if not shows_sums(shelf[at], question.test, question.asked, notes) or not notes.is_fixed:
            return False
    known = sum([sum_of(reads[at], shelf.names, question.test, question.asked) for at in reads])
    return is_exactly(paper.answer, known + sum([notes.least for _, notes in paper.parts]))


def _told_numbers(head, question, notes):
    """A dict from the values of a block's notes to the least and the greatest number of matches; None if one is wrong.

    Integers have their sign.
    """
    if not _are_tuples(notes, 3) or not _are_ascending([note[0] for note in notes]):
        return None
    sign = sign_of(question)
    found = _kinds_by_value(head, question, [None if note[0] is None else sign * note[0] for note in notes])
    numbers = {}
    for (_, kinds_paper, covers_paper), value in zip(notes, list(found)):
        if not is_kinds(kinds_paper, found[value]) or not shows_covers(found[value], covers_paper):
            return None
        told = counts_of_kinds(head.rows, found[value], covers_paper)
        numbers[value] = (told.minimum, told.maximum)
    return numbers


def _are_ascending(values):
    if not all([is_value(value) for value in values]):
        return False
    return list(ascending(values)) == values


def _kinds_by_value(head, question, values):
    """A dict from some values, integers having their sign, to the Kinds of a block with the limit from there on."""
    if question.asked is None:
        return {value: kinds(head, question.test) for value in values}
    found = extents(head, question.test, question.asked)
    if sign_of(question) < 0:
        found = found.turned()
    return {value: found.kinds_from(value) for value in values}


def _shows_number(shelf, question, reads, answer, told):
    """Whether the numbers of matches that are told of the blocks show the answer to a question without a column."""
    if not all([list(numbers) == [None] for numbers in told]):
        return False
    known = sum([matches_of(reads[at], shelf.names, question.test) for at in reads])
    few = known + sum([numbers[None][0] for numbers in told])
    many = known + sum([numbers[None][1] for numbers in told])
    if isinstance(question, Many):
        return few == many and is_exactly(answer, few)
    if not isinstance(answer, bool):
        return False
    return few >= question.quota if answer else many < question.quota


def _shows_values(shelf, question, reads, answer, told):
    """Whether the numbers of matches that are told of the blocks show the answer to a question about values."""
    values = values_of_answer(question, answer)
    if values is None:
        return False
    last = values[-1] if len(values) == question.quota else None
    sure = [_sure_above(question, numbers, last) for numbers in told]
    if any([pairs is None for pairs in sure]):
        return False
    known = [pair for at in reads for pair in matched_values(reads[at], shelf.names, question.test, question.asked)]
    known = [(sign_of(question) * value, times) for value, times in known]
    if last is not None:
        least = sum([numbers[last][0] for numbers in told])
        if least + sum([times for value, times in known if value >= last]) < question.quota:
            return False
    pairs = [pair for some in sure for pair in some]
    pairs = pairs + [(value, times) for value, times in known if last is None or value > last]
    return is_exactly(answer, answer_of_values(question, filled_values(pairs, last, question.quota)))


def _sure_above(question, told, last):
    """The pairs of an integer above the last one (None: of any) and how many matches of a block surely have it.

    None if the numbers that are told do not show it.
    """
    start = None if last is None else last + 1
    steps = sorted([int(value) for value in told if _is_step(told, last, value)])
    due = [start, *steps, *[value + 1 for value in steps]]
    if last is not None:
        due.append(last)
    if not all([value in told for value in due]) or not all([value in due for value in told]):
        return None
    cut = {value: (shown_by(question, few), shown_by(question, many)) for value, (few, many) in told.items()}
    if not all([few == many for value, (few, many) in cut.items() if last is None or value != last]):
        return None
    number = cut[start][0]
    pairs = []
    for value in steps:
        if cut[value][0] != number:
            return None
        number = cut[value + 1][0]
        pairs.append((value, cut[value][0] - number))
    return pairs if number == 0 else None


def _is_step(told, last, value):
    """Whether numbers are told of this integer above the last one and of the next one."""
    if value is None or (last is not None and value <= last):
        return False
    return value + 1 in told

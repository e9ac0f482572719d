"""The rules of a right Settled, as the words of the document tell them, and bent papers."""

import itertools

from headskip.counts import counts
from headskip.covers import covers
from headskip.kinds import kinds
from headskip.questions import AtLeast, Greatest, Least, Many, Some, Top, Total
from headskip.settled import Settled
from headskip.spots import Limit
from headskip.sums import shows_sums
from brute import answer_on, matched
from helpers import exactly


def limit_at(question, value):
    """The limit of a note."""
    if question.asked is None:
        return None
    if value is None:
        return Limit(question.asked)
    return Limit(question.asked, None, value) if isinstance(question, Least) else Limit(question.asked, value)


def note_at(head, question, value):
    """The right note of a value."""
    found = kinds(head, question.test, limit_at(question, value))
    return value, found, covers(found)


def notes_at(head, question, values):
    """The notes of some values, ascending, None last."""
    return tuple(note_at(head, question, value) for value in sorted(set(values), key=lambda value: (value is None, value)))


def known_rows(reads):
    return [row for lots in reads.values() for row, times in lots for _ in range(times)]


def rules_hold(shelf, question, reads, paper):
    """Whether a Settled is right: all choices of the values u are gone through."""
    unread = [at for at in range(len(shelf)) if at not in reads]
    if type(paper.parts) is not tuple or not all(type(part) is tuple and len(part) == 2 for part in paper.parts):
        return False
    if not exactly([at for at, _ in paper.parts], unread):
        return False
    if isinstance(question, Total):
        return total_holds(shelf, question, reads, paper)
    for at, notes in paper.parts:
        if type(notes) is not tuple or not all(type(note) is tuple and len(note) == 3 for note in notes):
            return False
        values = [note[0] for note in notes]
        if not all(value is None or type(value) is int for value in values):
            return False
        wanted = notes_at(shelf[at], question, values)
        if not exactly([plain(note) for note in notes], [plain(note) for note in wanted]):
            return False
    if question.asked is None:
        return number_holds(shelf, question, reads, paper)
    return values_hold(shelf, question, reads, paper)


def plain(note):
    """A note without objects, so that kinds of values can be compared."""
    value, found, told = note
    return value, type(found), vars(found) if found is not None else None, type(told), vars(told)


def total_holds(shelf, question, reads, paper):
    for at, notes in paper.parts:
        if not shows_sums(shelf[at], question.test, question.asked, notes) or notes.least != notes.greatest:
            return False
    total = answer_on(question, shelf.names, known_rows(reads)) + sum(notes.least for _, notes in paper.parts)
    return exactly(paper.answer, total)


def number_holds(shelf, question, reads, paper):
    if any([note[0] for note in notes] != [None] for _, notes in paper.parts):
        return False
    known = answer_on(Many(question.test), shelf.names, known_rows(reads))
    found = [counts(shelf[at], question.test) for at, _ in paper.parts]
    if isinstance(question, Many):
        return all(numbers.is_fixed for numbers in found) and exactly(paper.answer, known + sum(n.minimum for n in found))
    if paper.answer is True:
        return known + sum(numbers.minimum for numbers in found) >= question.quota
    return paper.answer is False and known + sum(numbers.maximum for numbers in found) < question.quota


def values_hold(shelf, question, reads, paper):
    """Greatest, Least and Top."""
    quota = question.quota
    answer = paper.answer
    if isinstance(question, Top):
        if type(answer) is not tuple or not all(type(value) is int for value in answer) or len(answer) > quota:
            return False
    elif answer is not None and type(answer) is not int:
        return False
    told = list(answer) if isinstance(question, Top) else [] if answer is None else [answer]
    last = told[-1] if len(told) == quota else None
    step = -1 if isinstance(question, Least) else 1
    known = matched(shelf.names, question.test, known_rows(reads), question.asked)
    built = [value for value in known if last is None or (value - last) * step > 0]
    at_last = sum((value - last) * step >= 0 for value in known) if last is not None else 0
    for at, notes in paper.parts:
        sure = sure_values(shelf[at], question, [note[0] for note in notes], last, step)
        if sure is None:
            return False
        built += sure
        if last is not None:
            at_last += min(quota, counts(shelf[at], question.test, limit_at(question, last)).minimum)
    built = sorted(built, reverse=step > 0)
    if last is None:
        return len(built) < quota and built == told
    return at_last >= quota and len(built) < quota and built + [last] * (quota - len(built)) == told


def sure_values(head, question, values, last, step):
    """The values that the notes of a block show above the last one; None if no choice of values u makes them right."""
    found = {value: counts(head, question.test, limit_at(question, value)) for value in values}
    cut = {value: (min(question.quota, n.minimum), min(question.quota, n.maximum)) for value, n in found.items()}
    beyond = [value for value in values if value is not None and (last is None or (value - last) * step > 0)]
    beyond = sorted(beyond, reverse=step < 0)
    start = None if last is None else last + step
    for many in range(len(beyond) + 1):
        for chosen in itertools.combinations(beyond, many):
            due = {start, *chosen, *[value + step for value in chosen]} | ({last} if last is not None else set())
            if due == set(values) and is_chain(cut, chosen, start, last, step):
                return [value for value in chosen for _ in range(cut[value][0] - cut[value + step][0])]
    return None


def is_chain(cut, chosen, start, last, step):
    if any(few != many for value, (few, many) in cut.items() if last is None or value != last):
        return False
    number = cut[start][0]
    for value in chosen:
        if cut[value][0] != number:
            return False
        number = cut[value + step][0]
    return number == 0


def bent_notes(rng, head, question, notes):
    """Notes near to some right ones, many of other values, each right for its value."""
    values = [note[0] for note in notes]
    step = -1 if isinstance(question, Least) else 1
    kind = rng.randrange(6)
    if kind == 0 and values:
        values.remove(rng.choice(values))
    elif kind == 1:
        values.append(rng.choice((None, *range(-3, 7))))
    elif kind == 2:
        value = rng.randint(-3, 7)
        values += [value, value + step]
    elif kind == 3:
        value = rng.randint(-3, 7)
        values += [value, value + step, value + 2 * step]
    elif kind == 4:
        values += list(range(-3, 8))
    else:
        values = [value if value is None else value + rng.choice((-1, 0, 1)) for value in values]
    return notes_at(head, question, values)


def questions_over(test, column, rng):
    """One question of each class, with any numbers."""
    return [Some(test), Many(test), AtLeast(rng.randint(1, 5), test), Greatest(column, test), Least(column, test),
            Total(column, test), Top(rng.randint(1, 4), column, test)]


def with_notes(paper, at, notes):
    """A Settled with other notes for one of its blocks."""
    return Settled(paper.answer, tuple((k, notes if k == at else told) for k, told in paper.parts))

"""All contents and all tables of small heads, gone through one by one, and what the document's words say of them."""

import itertools

from headskip.errors import SkipError
from headskip.heads import Head
from headskip.lots import Lots
from headskip.spots import Limit
from helpers import random_told


def allowed_values(told):
    """All values that a small Told lets."""
    numbers = [] if told.low is None else range(told.low, told.high + 1)
    return [value for value in (*numbers, None) if value in told]


def allowed_rows(head):
    """All rows that a small head lets."""
    return list(itertools.product(*[allowed_values(head[name]) for name in head]))


def all_contents(head):
    """All contents that fit a small head, each as a tuple of rows."""
    return [rows for rows in itertools.combinations_with_replacement(allowed_rows(head), head.rows)
            if all(any(row[head.names.index(name)] == want for row in rows) for name, want in head.wanted)]


def all_tables(shelf, reads=()):
    """All tables of a small shelf that have some blocks, each as a tuple of tuples of rows."""
    blocks = []
    for at, head in enumerate(shelf):
        known = [tuple(row for row, times in reads[at] for _ in range(times))] if at in reads else all_contents(head)
        blocks.append(known)
    return list(itertools.product(*blocks))


def matches(test, limit, named):
    """Whether a row, told as a dict, matches, by the words of the document."""
    if limit is not None:
        value = named[limit.column]
        if value is None or (limit.low is not None and value < limit.low):
            return False
        if limit.high is not None and value > limit.high:
            return False
    return test.truth(named) is True


def does_match(names, test, limit, row):
    """Whether a row with columns of these names matches."""
    return matches(test, limit, dict(zip(names, row)))


def matched(names, test, rows, column):
    """The integers of a column in the rows that match, descending."""
    found = [dict(zip(names, row))[column] for row in rows if test.truth(dict(zip(names, row))) is True]
    return sorted([value for value in found if value is not None], reverse=True)


def numbers_of(head, test, limit=None):
    """The numbers of matches over all contents, ascending."""
    rows = {row: does_match(head.names, test, limit, row) for row in allowed_rows(head)}
    return sorted({sum(rows[row] for row in contents) for contents in all_contents(head)})


def answer_on(question, names, rows):
    """The answer of a question on some rows, by the words of the document."""
    kind = type(question).__name__
    if kind in ("Some", "Many", "AtLeast"):
        many = sum(question.test.truth(dict(zip(names, row))) is True for row in rows)
        return many if kind == "Many" else many >= question.quota
    values = matched(names, question.test, rows, question.asked)
    if kind == "Top":
        return tuple(values[:question.quota])
    if kind == "Total":
        return sum(values)
    return (values[0] if kind == "Greatest" else values[-1]) if values else None


def small_head(rng, names, numbers=(0, 1, 2), rows=None):
    """Any small head over some ascending integers."""
    while True:
        try:
            return Head.of(rows or rng.randint(1, 3), {name: random_told(rng, numbers) for name in names})
        except SkipError:
            pass


def some_limit(rng, names, numbers):
    """Any limit, or none."""
    ends = (*numbers, None)
    return rng.choice((None, Limit(rng.choice(names), rng.choice(ends), rng.choice(ends))))


def lots_of(rows):
    """The Lots of some rows."""
    return Lots.of(list(rows))

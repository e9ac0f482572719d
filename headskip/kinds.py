"""Which wants of a head the matching rows and the other rows can meet together."""

from headskip.errors import BadRow
from headskip.spots import check_columns, deciding_rows
from headskip.values import is_exactly, is_integer


class Kinds:
    """The greatest sets of wants that a matching row, and that another row, can meet: a paper."""

    def __init__(self, wants, matching, others):
        self.wants = wants
        self.matching = matching
        self.others = others

    def __eq__(self, other):
        if not isinstance(other, Kinds) or self.wants != other.wants:
            return False
        return self.matching == other.matching and self.others == other.others


def kinds(head, test, limit=None):
    """The Kinds of a block."""
    places = _want_places(head)
    matching = {}
    others = {}
    for row in deciding_rows(head, test, limit):
        met = _met(places, row)
        if met in matching and met in others:
            continue
        if _is_match(head, test, limit, row):
            matching[met] = True
        else:
            others[met] = True
    return Kinds(head.wanted, _greatest(list(matching)), _greatest(list(others)))


def kind_row(head, test, matches, some, limit=None):
    """The first deciding row that matches, or does not, and meets some wants; None if there is none."""
    check_columns(head, test, limit)
    _check_some(head, some)
    if not isinstance(matches, bool):
        raise BadRow("matches")
    places = _want_places(head)
    for row in deciding_rows(head, test, limit):
        met = _met(places, row)
        if all([k in met for k in some]) and _is_match(head, test, limit, row) == matches:
            return row
    return None


def shows_kinds(head, test, paper, limit=None):
    """Whether any value is the Kinds of a block, of the same kinds of values."""
    found = kinds(head, test, limit)
    if not isinstance(paper, Kinds):
        return False
    told = (paper.wants, paper.matching, paper.others)
    return is_exactly(told, (found.wants, found.matching, found.others))


def _want_places(head):
    """For each column a dict from its wants to their indexes."""
    wanted = list(enumerate(head.wanted))
    return [{want: k for k, (name, want) in wanted if name == column} for column in head.names]


def _met(places, row):
    """The indexes of the wants that a row meets, ascending."""
    return tuple([place[value] for place, value in zip(places, row) if value in place])


def _is_match(head, test, limit, row):
    named = dict(zip(head.names, row))
    if limit is not None and not limit.lets(named[limit.column]):
        return False
    return test.truth_in(named) is True


def _greatest(sets):
    """The sets that lie within no other one, ascending."""
    found = [some for some in sets if not any([_lies_below(some, other) for other in sets])]
    return tuple(sorted(set(found)))


def _lies_below(some, other):
    return len(some) < len(other) and all([k in other for k in some])


def _check_some(head, some):
    if not isinstance(some, tuple):
        raise BadRow("some")
    for k in some:
        if not is_integer(k) or not 0 <= k < len(head.wanted):
            raise BadRow("some")

"""Which wants of a head the matching rows and the other rows can meet together."""

from headskip.errors import BadRow
from headskip.matches import is_match
from headskip.spots import check_columns, deciding_rows
from headskip.values import is_exactly, is_index


class Kinds:
    """The greatest sets of wants that a matching row, and that another row, can meet: a paper."""

    def __init__(self, wants, matching, others):
        self.wants = wants
        self.matching = matching
        self.others = others

    def __eq__(self, other):
        if not isinstance(other, Kinds) or self.wants != other.wants:
            return False
        return self.matching == other.matching and self.others == other.others


def kinds(head, test, limit=None):
    """The Kinds of a block."""
    matching, others = rows_by_kind(head, test, limit)
    return kinds_of_sets(head.wanted, list(matching), list(others))


def kind_row(head, test, matches, some, limit=None):
    """The first deciding row that matches, or does not, and meets some wants; None if there is none."""
    check_columns(head, test, limit)
    _check_some(head, some)
    if not isinstance(matches, bool):
        raise BadRow("matches")
    places = want_places(head)
    for row in deciding_rows(head, test, limit):
        met = met_wants(places, row)
        if all([k in met for k in some]) and is_match(head.names, test, limit, row) == matches:
            return row
    return None


def shows_kinds(head, test, paper, limit=None):
    """Whether any value is the Kinds of a block, of the same kinds of values."""
    found = kinds(head, test, limit)
    return is_kinds(paper, found)


def is_kinds(paper, wanted):
    """Whether any value is a Kinds like the one that is wanted, of the same kinds of values."""
    if not isinstance(paper, Kinds):
        return False
    told = (paper.wants, paper.matching, paper.others)
    return is_exactly(told, (wanted.wants, wanted.matching, wanted.others))


def rows_by_kind(head, test, limit=None):
    """Two dicts from the sets of wants that matching rows meet, and that others meet, to the first such row."""
    places = want_places(head)
    matching = {}
    others = {}
    for row in deciding_rows(head, test, limit):
        met = met_wants(places, row)
        if met in matching and met in others:
            continue
        if is_match(head.names, test, limit, row):
            matching.setdefault(met, row)
        else:
            others.setdefault(met, row)
    return matching, others


def kinds_of_sets(wants, matching, others):
    """The Kinds of all sets of wants that matching rows meet, and that others meet."""
    return Kinds(wants, _greatest(matching), _greatest(others))


def want_places(head):
    """For each column a dict from its wants to their indexes."""
    wanted = list(enumerate(head.wanted))
    return [{want: k for k, (name, want) in wanted if name == column} for column in head.names]


def met_wants(places, row):
    """The indexes of the wants that a row meets, ascending."""
    return tuple([place[value] for place, value in zip(places, row) if value in place])


def _greatest(sets):
    """The sets that lie within no other one, ascending."""
    found = [some for some in sets if not any([_lies_below(some, other) for other in sets])]
    return tuple(sorted(set(found)))


def _lies_below(some, other):
    return len(some) < len(other) and all([k in other for k in some])


def _check_some(head, some):
    if not isinstance(some, tuple) or not all([is_index(k, len(head.wanted)) for k in some]):
        raise BadRow("some")

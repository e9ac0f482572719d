"""Which rows match, and which values they have in a column."""


def is_match(names, test, limit, row):
    """Whether a row, its values being told in the order of names, matches a filter within a limit (None: all)."""
    named = dict(zip(names, row))
    if limit is not None and not limit.lets(named[limit.column]):
        return False
    return test.truth_in(named) is True


def matched_pairs(lots, names, test, limit=None):
    """The pairs of the rows that match, each with how often it stands there."""
    return [(row, times) for row, times in lots if is_match(names, test, limit, row)]


def matched_values(lots, names, test, column):
    """The pairs of the integers that matching rows have in a column, each with how often its row stands there."""
    place = names.index(column)
    pairs = matched_pairs(lots, names, test)
    return [(row[place], times) for row, times in pairs if row[place] is not None]

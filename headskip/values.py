"""What integers, values, names and rows are, and the order in which values stand."""

LETTERS = "abcdefghijklmnopqrstuvwxyz"
NO_NAMES = ("and", "or", "not", "in", "null", "always", "never", "rows", "self")
LONGEST_NAME = 8
MOST_COLUMNS = 3


def is_integer(value):
    """Whether any value is an integer: True and False are none."""
    return isinstance(value, int) and not isinstance(value, bool)


def is_index(value, many):
    """Whether any value is the index of one of so many things."""
    return is_integer(value) and 0 <= value < many


def is_value(value):
    """Whether any value can stand in a row: an integer, or None for NULL."""
    return value is None or is_integer(value)


def is_name(value):
    """Whether any value is the name of a column."""
    if not isinstance(value, str) or not 1 <= len(value) <= LONGEST_NAME:
        return False
    return value not in NO_NAMES and all([letter in LETTERS for letter in value])


def is_row(value):
    """Whether any value is a row: a tuple of as many values as a block can have columns."""
    if not isinstance(value, tuple) or not 1 <= len(value) <= MOST_COLUMNS:
        return False
    return all([is_value(part) for part in value])


def are_ascending_names(value):
    """Whether any value is a list or tuple of names, each one greater than the one ahead."""
    if not isinstance(value, (list, tuple)) or not all([is_name(name) for name in value]):
        return False
    return list(value) == sorted(set(value))


def integers_of(values):
    """The integers among some values, in their order."""
    return tuple([value for value in values if value is not None])


def ascending(values):
    """Some values, each once, ascending, with None behind all integers."""
    found = sorted(set(integers_of(values)))
    if len(found) < len(set(values)):
        found.append(None)
    return tuple(found)


def in_order(values):
    """Some values, each as often as it stands there, ascending, with None behind all integers."""
    numbers = sorted([int(value) for value in values if value is not None])
    return (*numbers, *[None for value in values if value is None])


def ascending_rows(rows):
    """Some rows, each once, ascending value by value, with None behind all integers."""
    ranks = sorted(set([tuple([_rank(value) for value in row]) for row in rows]))
    return [tuple([None if is_null else value for is_null, value in rank]) for rank in ranks]


def _rank(value):
    return (1, 0) if value is None else (0, value)


def is_exactly(value, wanted):
    """Whether any value equals what is wanted (tuples, strings, integers, None), also by its kinds."""
    if isinstance(wanted, tuple):
        if not isinstance(value, tuple) or len(value) != len(wanted):
            return False
        return all([is_exactly(part, other) for part, other in zip(value, wanted)])
    return not isinstance(value, bool) and value == wanted

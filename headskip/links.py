"""Which columns the comparisons of a filter name, which integers, and which columns they link.

A note tells of one comparison: the tuple of its columns, and that of its integers.
"""

from headskip.errors import TooMany

MOST_COMPARISONS = 8
MOST_CONSTANTS = 4
MOST_LINKED = 2


def columns_of(notes):
    """The ascending tuple of the columns of some comparisons."""
    return tuple(sorted(set([name for names, _ in notes for name in names])))


def constants_of(notes):
    """The ascending tuple of the unlike integers of some comparisons."""
    return tuple(sorted(set([number for _, numbers in notes for number in numbers])))


def links_of(notes):
    """The ascending tuple of the ascending pairs of unlike columns that are compared."""
    pairs = [tuple(sorted(set(names))) for names, _ in notes]
    return tuple(sorted(set([pair for pair in pairs if len(pair) == 2])))


def constants_beside(notes):
    """The pairs (column, integer) of which both stand in one comparison."""
    return [(name, number) for names, numbers in notes for name in names for number in numbers]


def linked_with(name, links):
    """The ascending tuple of the columns that are linked with one, itself included."""
    found = [name]
    for _ in links:
        # Each round goes one link farther, so as many rounds as links are enough.
        near = [pair for pair in links if pair[0] in found or pair[1] in found]
        found = found + [end for pair in near for end in pair]
    return tuple(sorted(set(found)))


def check_whole(notes):
    """Raises TooMany unless these can be all the comparisons of one filter."""
    if len(notes) > MOST_COMPARISONS:
        raise TooMany("comparisons", MOST_COMPARISONS)
    if len(constants_of(notes)) > MOST_CONSTANTS:
        raise TooMany("constants", MOST_CONSTANTS)
    links = links_of(notes)
    for name in columns_of(notes):
        if len(linked_with(name, links)) > MOST_LINKED:
            raise TooMany("linked", MOST_LINKED)

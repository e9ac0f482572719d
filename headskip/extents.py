"""How far the values of a column go among the matching rows of a block, for each set of wants that rows meet."""

from headskip.errors import NoName
from headskip.kinds import kinds_of_sets, met_wants, want_places
from headskip.matches import is_match
from headskip.spots import check_columns, deciding_rows


class Extents:
    """Deciding rows of a block by the sets of wants that they meet: dicts from a set to a row.

    lows and highs have the matching rows with the least and with the greatest integer of the column, others some rows
    that do not match or have NULL there: these count for no limit and add nothing to a sum. sign is 1, or -1 where the
    integers of the column are taken as negated.
    """

    def __init__(self, head, place, sign, lows, highs, others):
        self.head = head
        self.place = place
        self.sign = sign
        self.lows = lows
        self.highs = highs
        self.others = others

    def turned(self):
        """The same with the integers of the column negated."""
        return Extents(self.head, self.place, -self.sign, self.highs, self.lows, self.others)

    def worth(self, row):
        """The integer of a row, with its sign."""
        return self.sign * row[self.place]

    def turns(self):
        """The integers, descending, at which the kinds of the rows with at least so much can change."""
        rows = list(self.lows.values()) + list(self.highs.values())
        return sorted(set([self.worth(row) for row in rows]))[::-1]

    def kinds_from(self, value):
        """The Kinds if only rows with at least this integer match (None: with any integer)."""
        matching = [met for met, row in self.highs.items() if value is None or self.worth(row) >= value]
        others = list(self.others)
        if value is not None:
            others = others + [met for met, row in self.lows.items() if self.worth(row) < value]
        return kinds_of_sets(self.head.wanted, matching, others)

    def most_gained(self):
        """Triples: a set of wants, the most that a row with it adds to the sum over all matches, and such a row."""
        found = {met: (0, row) for met, row in self.others.items()}
        for met, row in self.highs.items():
            if met not in found or self.worth(row) > 0:
                found[met] = (self.worth(row), row)
        return [(met, gain, row) for met, (gain, row) in found.items()]


def extents(head, test, column):
    """The Extents of a column of a block."""
    check_columns(head, test, None)
    if column not in head:
        raise NoName(column)
    place = head.names.index(column)
    lows, highs, others = {}, {}, {}
    places = want_places(head)
    for row in deciding_rows(head, test):
        met = met_wants(places, row)
        value = row[place]
        if value is None or not is_match(head.names, test, None, row):
            others.setdefault(met, row)
            continue
        if met not in lows or value < lows[met][place]:
            lows[met] = row
        if met not in highs or value > highs[met][place]:
            highs[met] = row
    return Extents(head, place, 1, lows, highs, others)

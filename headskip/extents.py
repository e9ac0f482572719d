"""How far the values of a column go among the matching rows of a block, for each set of wants that rows meet."""

from headskip.errors import NoName
from headskip.kinds import kinds_of_sets, met_wants, want_places
from headskip.matches import is_match
from headskip.spots import check_columns, deciding_rows


class Extents:
    """Deciding rows of a block by the sets of wants that they meet: dicts from a set to a row.

    lows and highs have the matching rows with the least and with the greatest integer of the column, blanks some with
    NULL there, others some that do not match. sign is 1, or -1 where the integers of the column are taken as negated.
    """

    def __init__(self, head, place, sign, lows, highs, blanks, others):
        self.head = head
        self.place = place
        self.sign = sign
        self.lows = lows
        self.highs = highs
        self.blanks = blanks
        self.others = others

    def turned(self):
        """The same with the integers of the column negated."""
        return Extents(self.head, self.place, -self.sign, self.highs, self.lows, self.blanks, self.others)

    def worth(self, row):
        """The integer of a row, with its sign."""
        return self.sign * row[self.place]

    def knows(self, met, value):
        """Whether a row with these wants and this value in the column tells nothing new, be it a match or not."""
        if met not in self.others:
            return False
        if value is None:
            return met in self.blanks
        return met in self.lows and self.lows[met][self.place] <= value <= self.highs[met][self.place]

    def turns(self):
        """The integers, descending, at which the kinds of the rows with at least so much can change."""
        rows = list(self.lows.values()) + list(self.highs.values())
        return sorted(set([self.worth(row) for row in rows]))[::-1]

    def kinds_from(self, value):
        """The Kinds if only rows with at least this integer match (None: with any integer)."""
        matching = [met for met, row in self.highs.items() if value is None or self.worth(row) >= value]
        others = list(self.others) + list(self.blanks)
        if value is not None:
            others = others + [met for met, row in self.lows.items() if self.worth(row) < value]
        return kinds_of_sets(self.head.wanted, matching, others)

    def gains(self):
        """Triples: a set of wants, the most that a row with it adds to the sum over all matches, and such a row."""
        found = {}
        for met, row in list(self.others.items()) + list(self.blanks.items()):
            found[met] = (0, row)
        for met, row in self.highs.items():
            if met not in found or self.worth(row) > 0:
                found[met] = (self.worth(row), row)
        return [(met, gain, row) for met, (gain, row) in found.items()]


def extents(head, test, column):
    """The Extents of a column of a block."""
    check_columns(head, test, None)
    if column not in head:
        raise NoName(column)
    place = head.names.index(column)
    lows, highs, blanks, others = {}, {}, {}, {}
    found = Extents(head, place, 1, lows, highs, blanks, others)
    places = want_places(head)
    for row in deciding_rows(head, test):
        met = met_wants(places, row)
        value = row[place]
        if found.knows(met, value):
            continue
        if not is_match(head.names, test, None, row):
            others.setdefault(met, row)
        elif value is None:
            blanks.setdefault(met, row)
        else:
            if met not in lows or value < lows[met][place]:
                lows[met] = row
            if met not in highs or value > highs[met][place]:
                highs[met] = row
    return found

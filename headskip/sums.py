"""Which sums the values of a column can have over all matches of a block."""

from headskip.covers import set_index
from headskip.extents import extents
from headskip.lots import Lots
from headskip.matches import matched_values
from headskip.values import is_integer


class Sums:
    """The least and the greatest sum, and contents that have them: a paper."""

    def __init__(self, least, greatest, few, much):
        self.least = least
        self.greatest = greatest
        self.few = few
        self.much = much

    @property
    def is_fixed(self):
        """Whether the least sum is the greatest one."""
        return self.least == self.greatest

    def __eq__(self, other):
        if not isinstance(other, Sums) or self.least != other.least or self.greatest != other.greatest:
            return False
        return self.few == other.few and self.much == other.much


def sums(head, test, column):
    """The Sums of a column over the matches of a block."""
    found = extents(head, test, column)
    greatest, much = _greatest_sum(found)
    least, few = _greatest_sum(found.turned())
    return Sums(-least, greatest, few, much)


def shows_sums(head, test, column, paper):
    """Whether any value is a Sums whose Lots fit and have its sums, the least and the greatest that there can be."""
    found = sums(head, test, column)
    if not isinstance(paper, Sums) or not is_integer(paper.least) or not is_integer(paper.greatest):
        return False
    if not head.fits(paper.few) or not head.fits(paper.much):
        return False
    if sum_of(paper.few, head.names, test, column) != found.least or paper.least != found.least:
        return False
    return sum_of(paper.much, head.names, test, column) == found.greatest and paper.greatest == found.greatest


def sum_of(lots, names, test, column):
    """The sum of the values of a column over the matches of Lots."""
    return sum([value * times for value, times in matched_values(lots, names, test, column)])


def _greatest_sum(found):
    """The greatest sum, and Lots that have it: all rows gain the most, but for a few that meet the wants."""
    gains = found.most_gained()
    most = max([int(triple[1]) for triple in gains])
    filler = [row for _, gain, row in gains if gain == most][0]
    losses = [(set_index(met), most - gain, row) for met, gain, row in gains]
    loss, rows = _cheapest_rows(losses, len(found.head.wanted), found.head.rows)
    pairs = [(row, 1) for row in rows]
    if found.head.rows > len(rows):
        pairs.append((filler, found.head.rows - len(rows)))
    return most * found.head.rows - loss, Lots(*pairs)


def _cheapest_rows(losses, wants, most):
    """The least loss of at most so many rows that meet all wants together, and such rows."""
    layers = _layers(losses, wants, most)
    rows = []
    at = (1 << wants) - 1
    for k in range(len(layers) - 1, 0, -1):
        for mask, loss, row in losses:
            if mask & at and _loss_behind(layers[k - 1], mask, loss, at) == layers[k][at]:
                rows.append(row)
                at = at & ~mask
                break
    return layers[-1][-1], rows


def _layers(losses, wants, most):
    """For none, one, two .. rows the least losses of so many rows, or fewer, that meet each set of wants."""
    size = 1 << wants
    layers = [[0] + [None] * (size - 1)]
    if most < wants:
        for _ in range(int(most)):
            layers.append([0] + [_least_loss(layers[-1], losses, at) for at in range(1, size)])
        return layers
    # More rows than wants are never needed: each one of the cheapest rows meets a want that no other one meets.
    layer = [0]
    for at in range(1, size):
        layer.append(_least_loss(layer, losses, at))
    return [layer] * (wants + 1)


def _least_loss(layer, losses, at):
    """The least loss of rows that meet a set of wants, by the losses with one row less; None if there are none."""
    # Some row must meet the first want of the set.
    found = [_loss_behind(layer, mask, loss, at) for mask, loss, _ in losses if mask & at & -at]
    known = [int(loss) for loss in found if loss is not None]
    return min([int(loss) for loss in known]) if known else None


def _loss_behind(layer, mask, loss, at):
    rest = layer[at & ~mask]
    return None if rest is None else rest + loss

"""The blocks of a store: their rows, and the heads that a rule book keeps of them, column by column."""

from headskip.heads import Head
from headskip.lots import Lots


class Block:
    """The rows of a block, and its head."""

    def __init__(self, lots, head):
        self.lots = lots
        self.head = head

    def __eq__(self, other):
        return isinstance(other, Block) and self.lots == other.lots and self.head == other.head


def block_with(upkeep, names, block, row):
    """The block behind a row that came; a new one of None."""
    one = Lots((row, 1))
    lots = one if block is None else block.lots + one
    tolds = []
    for k, name in enumerate(names):
        told = None if block is None else block.head[name]
        tolds.append(upkeep.come(told, row[k], _column(lots, k)))
    return _made(names, lots, tolds)


def block_without(upkeep, names, block, row):
    """The block behind a row that went; None without rows."""
    lots = block.lots.without(row)
    if lots.rows == 0:
        return None
    tolds = [upkeep.gone(block.head[name], row[k], _column(lots, k)) for k, name in enumerate(names)]
    return _made(names, lots, tolds)


def changed_block(upkeep, names, block, row, other):
    """The block behind a row that went and another one that came: one head is made at the end."""
    less = block.lots.without(row)
    lots = less + Lots((other, 1))
    tolds = []
    for k, name in enumerate(names):
        told = upkeep.gone(block.head[name], row[k], _column(less, k))
        tolds.append(upkeep.come(told, other[k], _column(lots, k)))
    return _made(names, lots, tolds)


def merged_block(upkeep, names, one, other):
    """Two blocks as one."""
    lots = one.lots + other.lots
    tolds = [upkeep.together(one.head[name], other.head[name], _column(lots, k)) for k, name in enumerate(names)]
    return _made(names, lots, tolds)


def split_blocks(upkeep, names, block, part):
    """What is left of a block, and the block of the rows that leave it."""
    rest = [(row, times - part.times(row)) for row, times in block.lots if times > part.times(row)]
    found = []
    for lots in (Lots(*rest), part):
        tolds = [upkeep.parted(block.head[name], _column(lots, k)) for k, name in enumerate(names)]
        found.append(_made(names, lots, tolds))
    return found


def looked_block(names, block):
    """The block with a head that is told anew."""
    return Block(block.lots, Head.around(block.lots, names))


def has_part(block, part):
    """Whether some rows, not none, are in a block, which has others, too."""
    if not 0 < part.rows < block.lots.rows:
        return False
    return all([times <= block.lots.times(row) for row, times in part])


def _column(lots, k):
    return [row[k] for row, _ in lots]


def _made(names, lots, tolds):
    return Block(lots, Head.of(lots.rows, dict(zip(names, tolds))))

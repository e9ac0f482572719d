"""Shelves: the heads of the blocks of a table; and tables: the contents of the blocks."""

from headskip.errors import BadRead, BadShelf, BadTable, NoBlock, TooMany
from headskip.heads import Head
from headskip.lots import Lots
from headskip.values import is_index

MOST_BLOCKS = 6


class Shelf:
    """The heads of the blocks of a table, in order."""

    def __init__(self, *heads):
        _check_heads(heads)
        self.heads = heads
        self.names = heads[0].names

    def __getitem__(self, at):
        if not is_index(at, len(self.heads)):
            raise NoBlock(at)
        return self.heads[at]

    def __len__(self):
        return len(self.heads)

    def __iter__(self):
        return iter(self.heads)

    def with_head(self, at, head):
        """The Shelf with another head there."""
        if not is_index(at, len(self.heads)):
            raise NoBlock(at)
        heads = [*self.heads[:at], head, *self.heads[at + 1:]]
        return Shelf(*heads)

    def with_merged(self, at):
        """The Shelf with a block and the one behind it merged into one."""
        if not is_index(at, len(self.heads) - 1):
            raise NoBlock(at)
        heads = [*self.heads[:at], self.heads[at] | self.heads[at + 1], *self.heads[at + 2:]]
        return Shelf(*heads)

    def __add__(self, other):
        if not isinstance(other, Shelf):
            raise BadShelf("with")
        heads = self.heads + other.heads
        return Shelf(*heads)

    def fits(self, table):
        """Whether any value is a Table with as many blocks, each of which fits its head."""
        if not isinstance(table, Table) or len(table) != len(self.heads):
            return False
        return all([head.fits(lots) for head, lots in zip(self.heads, table.blocks)])

    def sample(self):
        """A Table that fits."""
        blocks = [head.sample() for head in self.heads]
        return Table(*blocks)

    def read_at(self, table, *places):
        """What a reader knows who read these blocks: a dict from their indexes to their Lots."""
        if not self.fits(table):
            raise BadTable("table")
        for at in places:
            if not is_index(at, len(self.heads)):
                raise NoBlock(at)
        return {at: table[at] for at in sorted(set(places))}

    def agrees(self, table, reads):
        """Whether any value is a Table that fits and has the contents of the blocks that were read."""
        check_reads(self, reads)
        return self.fits(table) and all([table[at] == reads[at] for at in reads])

    @staticmethod
    def of(table, *names):
        """The tightest heads of a Table, whose rows have these columns."""
        if not isinstance(table, Table):
            raise BadTable("table")
        heads = [Head.around(lots, names) for lots in table]
        return Shelf(*heads)

    def __eq__(self, other):
        return isinstance(other, Shelf) and self.heads == other.heads


class Table:
    """The contents of blocks, in order."""

    def __init__(self, *blocks):
        _check_blocks(blocks)
        self.blocks = blocks

    def __getitem__(self, at):
        if not is_index(at, len(self.blocks)):
            raise NoBlock(at)
        return self.blocks[at]

    def __len__(self):
        return len(self.blocks)

    def __iter__(self):
        return iter(self.blocks)

    def with_block(self, at, lots):
        """The Table with other Lots there."""
        if not is_index(at, len(self.blocks)):
            raise NoBlock(at)
        blocks = [*self.blocks[:at], lots, *self.blocks[at + 1:]]
        return Table(*blocks)

    def __eq__(self, other):
        return isinstance(other, Table) and self.blocks == other.blocks


def check_reads(shelf, reads):
    """Raises BadRead unless reads is a dict from indexes of blocks to Lots that fit there."""
    if not isinstance(reads, dict):
        raise BadRead(None)
    for at in reads:
        if not is_index(at, len(shelf)):
            raise BadRead(at)
    for at, head in enumerate(shelf):
        if at in reads and not head.fits(reads[at]):
            raise BadRead(at)


def _check_heads(heads):
    if len(heads) == 0:
        raise BadShelf(0)
    for at, head in enumerate(heads):
        if not isinstance(head, Head) or head.names != heads[0].names:
            raise BadShelf(at)
    if len(heads) > MOST_BLOCKS:
        raise TooMany("blocks", MOST_BLOCKS)


def _check_blocks(blocks):
    if len(blocks) == 0:
        raise BadTable(0)
    for at, lots in enumerate(blocks):
        if not isinstance(lots, Lots):
            raise BadTable(at)
    if len(blocks) > MOST_BLOCKS:
        raise TooMany("blocks", MOST_BLOCKS)

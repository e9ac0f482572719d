"""Stores: blocks of rows whose heads are kept by a rule book, with deeds that can be taken back."""

from headskip.errors import BadBook, BadLots, BadRow, BadUpkeep, NoBlock, NoChange, TooMany
from headskip.kept_blocks import (
    block_with, block_without, changed_block, has_part, looked_block, merged_block, split_blocks,
)
from headskip.lots import Lots
from headskip.shelves import MOST_BLOCKS, Shelf, Table
from headskip.upkeep import Upkeep
from headskip.values import MOST_COLUMNS, are_ascending_names, is_index, is_row


class Store:
    """Blocks of rows, at first none, whose heads are kept by a rule book.

    blocks is never changed itself, so past can hold what it was ahead of each deed.
    """

    def __init__(self, upkeep, *names):
        if not isinstance(upkeep, Upkeep):
            raise BadUpkeep("upkeep")
        if not are_ascending_names(names) or not 1 <= len(names) <= MOST_COLUMNS:
            raise BadBook("names")
        self.names = names
        self.book = upkeep
        self.blocks = ()
        self.past = []

    @property
    def upkeep(self):
        """The rule book."""
        return self.book

    @property
    def shelf(self):
        """The Shelf of the heads, None without blocks."""
        heads = [block.head for block in self.blocks]
        return Shelf(*heads) if heads else None

    @property
    def table(self):
        """The Table of the contents, None without blocks."""
        contents = [block.lots for block in self.blocks]
        return Table(*contents) if contents else None

    def put(self, at, row):
        """One row more in a block; behind the last block it begins a new one."""
        if not is_index(at, len(self.blocks) + 1):
            raise NoBlock(at)
        if not self._can_have(row):
            raise BadRow("row")
        if at == MOST_BLOCKS:
            raise TooMany("blocks", MOST_BLOCKS)
        block = self.blocks[at] if at < len(self.blocks) else None
        self._replace(at, 1, [block_with(self.book, self.names, block, row)])

    def take(self, at, row):
        """One row goes; with its last row the block goes, too."""
        block = self._block_with_row(at, row)
        rest = block_without(self.book, self.names, block, row)
        self._replace(at, 1, [] if rest is None else [rest])

    def change(self, at, row, other):
        """One row becomes another one."""
        block = self._block_with_row(at, row)
        if not self._can_have(other):
            raise BadRow("other")
        self._replace(at, 1, [changed_block(self.book, self.names, block, row, other)])

    def merge(self, at):
        """The rows of the next block come into this one."""
        if not is_index(at, len(self.blocks) - 1):
            raise NoBlock(at)
        self._replace(at, 2, [merged_block(self.book, self.names, self.blocks[at], self.blocks[at + 1])])

    def split(self, at, lots):
        """Some rows leave for a new block directly behind this one."""
        block = self._block(at)
        if not isinstance(lots, Lots) or not has_part(block, lots):
            raise BadLots("lots")
        if len(self.blocks) == MOST_BLOCKS:
            raise TooMany("blocks", MOST_BLOCKS)
        self._replace(at, 1, split_blocks(self.book, self.names, block, lots))

    def look(self, at):
        """The head is told anew by the rows."""
        self._replace(at, 1, [looked_block(self.names, self._block(at))])

    def undo(self):
        """Takes back the last deed."""
        if len(self.past) == 0:
            raise NoChange()
        self.blocks = self.past.pop()

    def trial(self):
        """What `with` takes, so that behind its block the store is as it was ahead of it."""
        return Trial(self)

    def tried(self, work, kept=False):
        """What a function returns for the store, which is behind this as it was, unless it is kept."""
        with self.trial() as trial:
            found = work(self)
            if kept is True:
                trial.keep()
        return found

    def __len__(self):
        return len(self.past)

    def __eq__(self, other):
        if not isinstance(other, Store) or self.names != other.names or self.book != other.book:
            return False
        return self.blocks == other.blocks

    def _block(self, at):
        if not is_index(at, len(self.blocks)):
            raise NoBlock(at)
        return self.blocks[at]

    def _block_with_row(self, at, row):
        block = self._block(at)
        if block.lots.times(row) == 0:
            raise BadRow("row")
        return block

    def _can_have(self, row):
        return is_row(row) and len(row) == len(self.names)

    def _replace(self, at, many, blocks):
        """Puts blocks in the place of so many from an index on, as one deed."""
        self.past.append(self.blocks)
        self.blocks = (*self.blocks[:at], *blocks, *self.blocks[at + many:])


class Trial:
    """What a store was ahead of a block of `with`; goal is what becomes so again behind the block."""

    def __init__(self, store):
        self.store = store
        self.goal = store
        self.blocks = ()
        self.past = []

    def __enter__(self):
        self.goal = self.store
        self.blocks = self.store.blocks
        self.past = list(self.store.past)
        return self

    def keep(self):
        """Lets the deeds stand behind the block, if it raises no error."""
        # The trial itself is so already: then nothing is put back.
        self.goal = self

    def __exit__(self, kind, value, trace):
        if kind is not None:
            self.goal = self.store
        goal = self.goal
        goal.blocks = self.blocks
        goal.past = self.past


def store_of(upkeep, names, blocks):
    """A store that has these blocks, and nothing that could be taken back."""
    store = Store(upkeep, *names)
    store.blocks = blocks
    return store

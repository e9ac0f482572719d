"""Reading the text of a store, row by row."""

from headskip.errors import BadText, SkipError
from headskip.head_words import head_parts
from headskip.heads import Head
from headskip.kept_blocks import Block
from headskip.lots import Lots
from headskip.lots_words import lots_parts
from headskip.shelves import MOST_BLOCKS
from headskip.store import store_of
from headskip.tolds import told_of_parts
from headskip.upkeep import Upkeep
from headskip.upkeep_words import upkeep_parts
from headskip.values import MOST_COLUMNS, is_name
from headskip.words import check_end, check_word, word_at


def read_store(text):
    """A new store with this text, of which nothing can be taken back."""
    if not isinstance(text, str):
        raise BadText(0, 0)
    rows = text.split("\n")
    names = _row_parts(rows, 0, "names", _names_parts)
    rules = _row_parts(rows, 1, "upkeep", upkeep_parts)
    blocks = []
    for line in range(2, len(rows), 2):
        pairs = _row_parts(rows, line, "lots", lots_parts)
        if len(blocks) == MOST_BLOCKS:
            raise BadText(line, 0)
        lots = _lots(line, pairs, len(names))
        parts = _row_parts(rows, line + 1, "head", _head_parts)
        blocks.append(Block(lots, _head(line + 1, parts, names, lots.rows)))
    return store_of(Upkeep(**rules), names, tuple(blocks))


def _row_parts(rows, line, first, parts_of):
    """The parts of a row that begins with this word, as a function reads them from word 1 on."""
    if line == len(rows):
        raise BadText(line, 0)
    words = rows[line].split(" ")
    try:
        check_word(words, 0, first)
        parts, behind = parts_of(words, 1)
        check_end(words, behind)
    except BadText as error:
        raise BadText(line, error.word) from None
    return parts


def _names_parts(words, at):
    """The ascending names from a word on, and the index behind them."""
    names = [word_at(words, at), *words[at + 1:]]
    for k, name in enumerate(names):
        if not is_name(name) or k == MOST_COLUMNS or (k > 0 and name <= names[k - 1]):
            raise BadText(0, at + k)
    return tuple(names), at + len(names)


def _head_parts(words, at):
    rows, tolds, behind = head_parts(words, at)
    return (rows, tolds), behind


def _lots(line, pairs, width):
    """The Lots of some pairs, of so many columns."""
    try:
        lots = Lots(*pairs)
    except SkipError:
        raise BadText(line, 0) from None
    if lots.width != width:
        raise BadText(line, 0)
    return lots


def _head(line, parts, names, many):
    """The Head of its parts, with these names and so many rows."""
    rows, tolds = parts
    try:
        head = Head.of(rows, {name: told_of_parts(tolds[name]) for name in tolds})
    except SkipError:
        raise BadText(line, 0) from None
    if head.names != names or head.rows != many:
        raise BadText(line, 0)
    return head

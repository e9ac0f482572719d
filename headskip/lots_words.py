"""Reading the text of the contents of a block, within the words of a longer text."""

from headskip.errors import BadText
from headskip.values import MOST_COLUMNS
from headskip.words import check_word, is_count, value_at, word_at


def lots_parts(words, at):
    """The pairs of the Lots whose text begins at a word, and the index behind it."""
    if word_at(words, at) == "-":
        return (), at + 1
    pair, at = _pair(words, at, None)
    pairs = [pair]
    while at < len(words) and words[at] == ";":
        pair, at = _pair(words, at + 1, pairs[-1][0])
        pairs.append(pair)
    return tuple(pairs), at


def _pair(words, at, above):
    """The pair that begins at a word, behind a row above it (None for the first pair)."""
    row, at = _row(words, at, above)
    check_word(words, at, "*")
    if not is_count(word_at(words, at + 1)):
        raise BadText(0, at + 1)
    return (row, int(words[at + 1])), at + 2


def _row(words, at, above):
    if above is None:
        return _first_row(words, at)
    row = ()
    for _ in above:
        row = (*row, value_at(words, at))
        if not _can_stand(row, above):
            raise BadText(0, at)
        at += 1
    return row, at


def _first_row(words, at):
    row = (value_at(words, at),)
    at += 1
    while len(row) < MOST_COLUMNS and at < len(words) and words[at] != "*":
        row = (*row, value_at(words, at))
        at += 1
    return row, at


def _can_stand(begun, above):
    """Whether the last value of a row that is begun can stand there, below another row."""
    last = len(begun) - 1
    if begun[:last] != above[:last]:
        return True
    if begun[last] == above[last]:
        return len(begun) < len(above)
    return above[last] is not None and (begun[last] is None or begun[last] > above[last])
